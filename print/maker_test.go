package print_test

import (
	"math/rand"
	"strconv"
	"strings"

	"usufruct/api"
)

// maker makes trees by chance, and beside each the text that the chapter asks for.
type maker struct {
	r    *rand.Rand
	left int // how many statements may still be made
}

func newMaker(seed int64) *maker {
	return &maker{r: rand.New(rand.NewSource(seed)), left: 40}
}

func (m *maker) coin() bool { return m.r.Intn(2) == 0 }

func (m *maker) pick(of ...string) string { return of[m.r.Intn(len(of))] }

func (m *maker) name() string {
	return m.pick("x", "y", "f", "S", "_", "a1", "fnx", "Int", "while_", "abcdefghijabcdefghijabcdefghij12")
}

func (m *maker) farName() string {
	if m.coin() {
		return m.name()
	}
	return m.name() + "::" + m.name()
}

func (m *maker) life() string {
	return m.pick("a", "b", "mut", "int", "fn", "struct", "_1", "abcdefghijabcdefghijabcdefghij12")
}

func some[T any](m *maker, member func() (T, string)) (l []T, texts []string) {
	for range m.r.Intn(4) {
		x, s := member()
		l, texts = append(l, x), append(texts, s)
	}
	return l, texts
}

func (m *maker) lives() (lives []string, text string) {
	lives, texts := some(m, func() (string, string) {
		s := m.life()
		return s, "'" + s
	})
	return lives, within("<", texts, ">")
}

// within is empty without members.
func within(begin string, texts []string, end string) string {
	if len(texts) == 0 {
		return ""
	}
	return begin + strings.Join(texts, ", ") + end
}

func braces(texts []string) string {
	return "{" + within(" ", texts, "") + " }"
}

func (m *maker) typeOf() (api.Type, string) {
	switch m.r.Intn(5) {
	case 0:
		return api.Type{Kind: api.KindInt}, "int"
	case 1:
		return api.Type{Kind: api.KindBool}, "bool"
	case 2:
		name := m.farName()
		lives, s := m.lives()
		return api.Type{Kind: api.KindStruct, Name: name, Lives: lives}, name + s
	}
	t := api.Type{Kind: api.KindRef}
	words := []string{}
	if m.coin() {
		t.Lives = []string{m.life()}
		words = append(words, "'"+t.Lives[0])
	}
	if m.coin() {
		t.Kind = api.KindMut
		words = append(words, "mut")
	}
	to, s := m.typeOf()
	t.Elem = []api.Type{to}
	return t, "&" + strings.Join(append(words, s), " ")
}

func (m *maker) field() (api.Field, string) {
	f := api.Field{Name: m.name()}
	t, s := m.typeOf()
	f.Type = t
	return f, f.Name + ": " + s
}

func (m *maker) place() (api.Place, string) {
	p := api.Place{Name: m.name()}
	for range m.r.Intn(4) {
		p.Path = append(p.Path, m.pick("*", m.name()))
	}
	return p, strings.Join(append([]string{p.Name}, p.Path...), ".")
}

func (m *maker) oper() (api.Oper, string) {
	switch m.r.Intn(4) {
	case 0:
		n := []int{0, 1, 10, api.MaxInt, m.r.Intn(1000)}[m.r.Intn(5)]
		return api.Oper{Kind: api.OperInt, N: n}, strconv.Itoa(n)
	case 1:
		n := m.r.Intn(2)
		return api.Oper{Kind: api.OperBool, N: n}, []string{"false", "true"}[n]
	}
	p, s := m.place()
	return api.Oper{Kind: api.OperPlace, Place: p}, s
}

func (m *maker) call() (api.Value, string) {
	name := m.farName()
	args, texts := some(m, m.oper)
	return api.Value{Kind: api.ValueCall, Name: name, Args: args}, name + "(" + strings.Join(texts, ", ") + ")"
}

func (m *maker) makes() (api.Value, string) {
	v := api.Value{Kind: api.ValueMake, Name: m.farName()}
	args, texts := some(m, m.oper)
	v.Args = args
	for i := range texts {
		v.Names = append(v.Names, m.name())
		texts[i] = v.Names[i] + ": " + texts[i]
	}
	return v, v.Name + " " + braces(texts)
}

func (m *maker) value() (api.Value, string) {
	switch m.r.Intn(7) {
	case 0:
		p, s := m.place()
		return api.Value{Kind: api.ValueRef, Place: p}, "&" + s
	case 1:
		p, s := m.place()
		return api.Value{Kind: api.ValueMut, Place: p}, "&mut " + s
	case 2:
		a, s := m.oper()
		return api.Value{Kind: api.ValueNot, A: a}, "!" + s
	case 3:
		return m.call()
	case 4:
		return m.makes()
	case 5:
		a, s := m.oper()
		return api.Value{Kind: api.ValueOper, A: a}, s
	}
	a, left := m.oper()
	b, right := m.oper()
	op := api.OpAdd + m.r.Intn(4)
	return api.Value{Kind: api.ValueOp, A: a, B: b, Op: op}, left + []string{" + ", " - ", " < ", " == "}[op-api.OpAdd] + right
}

// stmts makes the lines between a block's braces, each a tab deeper than these.
func (m *maker) stmts() (l []api.Stmt, lines []string) {
	for m.left > 0 && m.r.Intn(4) > 0 {
		m.left--
		s, inner := m.stmt()
		l = append(l, s)
		for _, line := range inner {
			lines = append(lines, "\t"+line)
		}
	}
	return l, lines
}

func (m *maker) stmt() (api.Stmt, []string) {
	s := api.Stmt{Kind: api.StmtLet + m.r.Intn(api.StmtDrop), At: m.r.Int()}
	begin := ""
	switch s.Kind {
	case api.StmtIf, api.StmtWhile:
		cond, text := m.oper()
		s.Cond = cond
		begin = map[int]string{api.StmtIf: "if ", api.StmtWhile: "while "}[s.Kind] + text + " "
	case api.StmtLoop:
		begin = "loop "
	case api.StmtBlock:
	default:
		return s, []string{m.plain(&s) + ";"}
	}
	then, inner := m.stmts()
	s.Then = then
	lines := append([]string{begin + "{"}, inner...)
	if s.Has = s.Kind == api.StmtIf && m.coin(); s.Has {
		other, inner := m.stmts()
		s.Else = other
		lines = append(append(lines, "} else {"), inner...)
	}
	return s, append(lines, "}")
}

func (m *maker) plain(s *api.Stmt) (text string) {
	switch s.Kind {
	case api.StmtLet:
		f, text := m.field()
		s.Name, s.Type, s.Mut = f.Name, f.Type, m.coin()
		if s.Mut {
			text = "mut " + text
		}
		return "let " + text + m.valueIfAny(s, " = ")
	case api.StmtSet:
		p, to := m.place()
		v, text := m.value()
		s.Place, s.Value = p, v
		return to + " = " + text
	case api.StmtCall:
		s.Value, text = m.call()
		return text
	case api.StmtBreak:
		return "break"
	case api.StmtContinue:
		return "continue"
	case api.StmtReturn:
		return "return" + m.valueIfAny(s, " ")
	}
	s.Place, text = m.place()
	return "drop " + text
}

func (m *maker) valueIfAny(s *api.Stmt, before string) (text string) {
	if s.Has = m.coin(); !s.Has {
		return ""
	}
	s.Value, text = m.value()
	return before + text
}

func (m *maker) structure() (api.Struct, string) {
	s := api.Struct{Pub: m.coin(), At: m.r.Int(), Name: m.name()}
	lives, text := m.lives()
	fields, texts := some(m, m.field)
	s.Lives, s.Fields = lives, fields
	return s, pub(s.Pub) + "struct " + s.Name + text + " " + braces(texts) + "\n"
}

func pub(is bool) string {
	if is {
		return "pub "
	}
	return ""
}

// head makes a function but for its body.
func (m *maker) head() (api.Func, string) {
	f := api.Func{Pub: m.coin(), At: m.r.Int(), Name: m.name()}
	lives, names := some(m, m.lifeOver)
	params, texts := some(m, func() (api.Field, string) {
		p, s := m.field()
		if p.Mut = m.coin(); p.Mut {
			s = "mut " + s
		}
		return p, s
	})
	f.Lives, f.Params = lives, params
	result := ""
	if m.coin() {
		t, s := m.typeOf()
		f.Result = t
		result = " -> " + s
	}
	return f, pub(f.Pub) + "fn " + f.Name + within("<", names, ">") + "(" + strings.Join(texts, ", ") + ")" + result
}

func (m *maker) lifeOver() (api.Life, string) {
	l := api.Life{Name: m.life()}
	text := "'" + l.Name
	for i := range m.r.Intn(4) {
		l.Over = append(l.Over, m.life())
		text += []string{": '", " + '", " + '"}[i] + l.Over[i]
	}
	return l, text
}

func (m *maker) function() (api.Func, string) {
	f, head := m.head()
	body, lines := m.stmts()
	f.Body = body
	lines = append(append([]string{head + " {"}, lines...), "}", "")
	return f, strings.Join(lines, "\n")
}

func (m *maker) crate() (api.Crate, string) {
	structs, first := some(m, m.structure)
	funcs, then := some(m, m.function)
	return api.Crate{Structs: structs, Funcs: funcs}, strings.Join(first, "") + strings.Join(then, "")
}
