package parse_test

import (
	"math/rand"
	"strconv"

	"usufruct/api"
)

// maker makes a tree and its tokens side by side, by chance; the tree's places are numbers of tokens.
type maker struct {
	r    *rand.Rand
	list []string
	left int // how many statements may still be made
}

func newMaker(seed int64) *maker {
	return &maker{r: rand.New(rand.NewSource(seed)), left: 40}
}

func (m *maker) put(tokens ...string) { m.list = append(m.list, tokens...) }

func (m *maker) coin() bool { return m.r.Intn(2) == 0 }

// may puts a token, or does not.
func (m *maker) may(token string) bool {
	if m.coin() {
		return false
	}
	m.put(token)
	return true
}

func (m *maker) pick(of ...string) string { return of[m.r.Intn(len(of))] }

func (m *maker) name() string {
	s := m.pick("x", "y", "f", "S", "_", "a1", "fnx", "Int", "while_", "abcdefghijabcdefghijabcdefghij12")
	m.put(s)
	return s
}

func (m *maker) farName() string {
	s := m.name()
	if m.may("::") {
		s += "::" + m.name()
	}
	return s
}

func (m *maker) life() string {
	s := m.pick("a", "b", "mut", "int", "fn", "struct", "_1", "abcdefghijabcdefghijabcdefghij12")
	m.put("'" + s)
	return s
}

// some makes from least to three members of a list.
func (m *maker) some(least int, between string, member func()) {
	for i := range least + m.r.Intn(4-least) {
		if i > 0 {
			m.put(between)
		}
		member()
	}
}

func (m *maker) lives() (lives []string) {
	if m.may("<") {
		m.some(1, ",", func() { lives = append(lives, m.life()) })
		m.put(">")
	}
	return lives
}

func (m *maker) typeOf() api.Type {
	switch m.r.Intn(5) {
	case 0:
		m.put("int")
		return api.Type{Kind: api.KindInt}
	case 1:
		m.put("bool")
		return api.Type{Kind: api.KindBool}
	case 2:
		name := m.farName()
		return api.Type{Kind: api.KindStruct, Name: name, Lives: m.lives()}
	}
	m.put("&")
	t := api.Type{Kind: api.KindRef}
	if m.coin() {
		t.Lives = []string{m.life()}
	}
	if m.may("mut") {
		t.Kind = api.KindMut
	}
	t.Elem = []api.Type{m.typeOf()}
	return t
}

func (m *maker) field() api.Field {
	name := m.name()
	m.put(":")
	return api.Field{Name: name, Type: m.typeOf()}
}

func (m *maker) place() api.Place {
	p := api.Place{Name: m.name()}
	for range m.r.Intn(4) {
		m.put(".")
		if m.may("*") {
			p.Path = append(p.Path, "*")
		} else {
			p.Path = append(p.Path, m.name())
		}
	}
	return p
}

func (m *maker) oper() api.Oper {
	switch m.r.Intn(4) {
	case 0:
		n := []int{0, 1, 10, api.MaxInt, m.r.Intn(1000)}[m.r.Intn(5)]
		m.put(strconv.Itoa(n))
		return api.Oper{Kind: api.OperInt, N: n}
	case 1:
		n := m.r.Intn(2)
		m.put([]string{"false", "true"}[n])
		return api.Oper{Kind: api.OperBool, N: n}
	}
	return api.Oper{Kind: api.OperPlace, Place: m.place()}
}

func (m *maker) call() api.Value {
	v := api.Value{Kind: api.ValueCall, Name: m.farName()}
	m.put("(")
	m.some(0, ",", func() { v.Args = append(v.Args, m.oper()) })
	m.put(")")
	return v
}

func (m *maker) makes() api.Value {
	v := api.Value{Kind: api.ValueMake, Name: m.farName()}
	m.put("{")
	m.some(0, ",", func() {
		v.Names = append(v.Names, m.name())
		m.put(":")
		v.Args = append(v.Args, m.oper())
	})
	m.put("}")
	return v
}

func (m *maker) value() api.Value {
	switch m.r.Intn(6) {
	case 0:
		m.put("&")
		v := api.Value{Kind: api.ValueRef}
		if m.may("mut") {
			v.Kind = api.ValueMut
		}
		v.Place = m.place()
		return v
	case 1:
		m.put("!")
		return api.Value{Kind: api.ValueNot, A: m.oper()}
	case 2:
		return m.call()
	case 3:
		return m.makes()
	case 4:
		return api.Value{Kind: api.ValueOper, A: m.oper()}
	}
	v := api.Value{Kind: api.ValueOp, A: m.oper(), Op: api.OpAdd + m.r.Intn(4)}
	m.put([]string{"+", "-", "<", "=="}[v.Op-api.OpAdd])
	v.B = m.oper()
	return v
}

func (m *maker) block() (l []api.Stmt) {
	m.put("{")
	for m.left > 0 && m.r.Intn(4) > 0 {
		m.left--
		l = append(l, m.stmt())
	}
	m.put("}")
	return l
}

func (m *maker) stmt() api.Stmt {
	s := api.Stmt{Kind: api.StmtLet + m.r.Intn(api.StmtDrop), At: len(m.list)}
	switch s.Kind {
	case api.StmtIf:
		m.put("if")
		s.Cond = m.oper()
		s.Then = m.block()
		if s.Has = m.may("else"); s.Has {
			s.Else = m.block()
		}
	case api.StmtWhile:
		m.put("while")
		s.Cond = m.oper()
		s.Then = m.block()
	case api.StmtLoop:
		m.put("loop")
		s.Then = m.block()
	case api.StmtBlock:
		s.Then = m.block()
	default:
		m.plain(&s)
		m.put(";")
	}
	return s
}

func (m *maker) plain(s *api.Stmt) {
	switch s.Kind {
	case api.StmtLet:
		m.put("let")
		s.Mut = m.may("mut")
		s.Name = m.name()
		m.put(":")
		s.Type = m.typeOf()
		if s.Has = m.may("="); s.Has {
			s.Value = m.value()
		}
	case api.StmtSet:
		s.Place = m.place()
		m.put("=")
		s.Value = m.value()
	case api.StmtCall:
		s.Value = m.call()
	case api.StmtBreak:
		m.put("break")
	case api.StmtContinue:
		m.put("continue")
	case api.StmtReturn:
		m.put("return")
		if s.Has = m.coin(); s.Has {
			s.Value = m.value()
		}
	case api.StmtDrop:
		m.put("drop")
		s.Place = m.place()
	}
}

func (m *maker) structure(pub bool) api.Struct {
	s := api.Struct{Pub: pub, At: len(m.list)}
	m.put("struct")
	s.Name = m.name()
	s.Lives = m.lives()
	m.put("{")
	m.some(0, ",", func() { s.Fields = append(s.Fields, m.field()) })
	m.put("}")
	return s
}

func (m *maker) function(pub bool) api.Func {
	f := api.Func{Pub: pub, At: len(m.list)}
	m.put("fn")
	f.Name = m.name()
	if m.may("<") {
		m.some(1, ",", func() {
			l := api.Life{Name: m.life()}
			if m.may(":") {
				m.some(1, "+", func() { l.Over = append(l.Over, m.life()) })
			}
			f.Lives = append(f.Lives, l)
		})
		m.put(">")
	}
	m.put("(")
	m.some(0, ",", func() {
		mut := m.may("mut")
		p := m.field()
		p.Mut = mut
		f.Params = append(f.Params, p)
	})
	m.put(")")
	if m.may("->") {
		f.Result = m.typeOf()
	}
	f.Body = m.block()
	return f
}

func (m *maker) crate() (c api.Crate) {
	for range m.r.Intn(5) {
		pub := m.may("pub")
		if m.coin() {
			c.Structs = append(c.Structs, m.structure(pub))
		} else {
			c.Funcs = append(c.Funcs, m.function(pub))
		}
	}
	return c
}
