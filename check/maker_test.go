package check_test

import (
	"math/rand"
	"slices"

	"usufruct/api"
	"usufruct/scope"
)

// maker makes bodies by chance that are right for the most part; spoil tells how seldom it takes what need not be right.
type maker struct {
	r      *rand.Rand
	reader reader
	spoil  int
	room   int // how many statements there may still be
	at     int
	count  int // of names
}

func newMaker(seed int64, s *scope.Scope, f api.Func, spoil int) *maker {
	return &maker{r: rand.New(rand.NewSource(seed)), reader: reader{s: s, f: f}, spoil: spoil, at: 1000}
}

// rare is true once in n, and never of 0.
func (m *maker) rare(n int) bool { return n > 0 && m.r.Intn(n) == 0 }

func (m *maker) wrong() bool { return m.rare(m.spoil) }

func pick[T any](m *maker, l ...T) T { return l[m.r.Intn(len(l))] }

func number() api.Type { return api.Type{Kind: api.KindInt} }

func truth() api.Type { return api.Type{Kind: api.KindBool} }

func named(name string, lives ...string) api.Type {
	return api.Type{Kind: api.KindStruct, Name: name, Lives: lives}
}

func refTo(kind int, to api.Type) api.Type {
	return api.Type{Kind: kind, Elem: []api.Type{to}}
}

// typeOf is a let's type, without lifetimes or with those that it takes.
func (m *maker) typeOf(deep int) api.Type {
	if deep > 0 && m.rare(3) {
		t := refTo(pick(m, api.KindRef, api.KindMut), m.typeOf(deep-1))
		if m.rare(4) {
			t.Lives = []string{pick(m, "a", "b")}
		}
		if m.wrong() {
			t.Lives = []string{"z"}
		}
		return t
	}
	if m.wrong() {
		return pick(m, named("U"), named("d::U"), named("S", "a", "b"), named("R", "z"), refTo(api.KindRef, named("D", "a")))
	}
	return pick(m, number(), number(), truth(), truth(), named("P"), named("P"), named("N"), named("d::P"), named("R"), named("S", "a"), named("d::T"))
}

// path is a place's path on from a type, as far as chance leads, and its type.
func (m *maker) path(text string) ([]string, string) {
	var path []string
	for len(path) < 6 {
		steps := m.steps(text)
		if len(steps) == 0 || m.rare(2) {
			break
		}
		step := pick(m, steps...)
		if m.wrong() {
			step = pick(m, "*", "n", "u", "p", "q", "")
		}
		path = append(path, step)
		text = m.after(text, step)
	}
	return path, text
}

// steps are those that a type has.
func (m *maker) steps(text string) []string {
	if _, is := below(text); is {
		return []string{"*"}
	}
	x, _ := m.reader.s.Struct(text)
	var steps []string
	for _, f := range x.Fields {
		steps = append(steps, f.Name)
	}
	return steps
}

// after is the type that a step leads to; one that it does not have leads nowhere.
func (m *maker) after(text, step string) string {
	if step == "*" {
		inner, _ := below(text)
		return inner
	}
	field, _ := m.reader.field(text, step)
	return field
}

// place is one of that type ("": of any) of which right holds, if one is found.
func (m *maker) place(there []known, text string, right func(p api.Place) bool) (api.Place, bool) {
	for range 60 {
		k := pick(m, there...)
		path, got := m.path(k.text)
		p := api.Place{Name: k.name, Path: path}
		if m.wrong() || (text == "" || got == text) && right(p) {
			return p, true
		}
	}
	if m.wrong() {
		return api.Place{Name: pick(m, "u", "id", "")}, true
	}
	return api.Place{}, false
}

func anyPlace(api.Place) bool { return true }

func (m *maker) changeable(there []known) func(p api.Place) bool {
	return func(p api.Place) bool {
		_, mut, _, bad := m.reader.place(p, there)
		return bad == nil && mut
	}
}

func (m *maker) movable(there []known) func(p api.Place) bool {
	return func(p api.Place) bool {
		_, bad := m.reader.oper(api.Oper{Kind: api.OperPlace, Place: p}, there)
		return bad == nil
	}
}

func (m *maker) oper(there []known, text string) (api.Oper, bool) {
	if m.wrong() {
		text = pick(m, "", "int", "bool", "P")
	}
	if p, is := m.place(there, text, m.movable(there)); is && m.rare(2) || text != "int" && text != "bool" {
		return api.Oper{Kind: api.OperPlace, Place: p}, is
	}
	if text == "int" {
		return api.Oper{Kind: api.OperInt, N: m.r.Intn(100)}, true
	}
	return api.Oper{Kind: api.OperBool, N: m.r.Intn(2)}, true
}

// args are operands for what is asked.
func (m *maker) args(there []known, asked []api.Field) ([]api.Oper, bool) {
	var l []api.Oper
	for _, f := range asked {
		o, is := m.oper(there, textOf(f.Type))
		if !is {
			return nil, false
		}
		l = append(l, o)
	}
	if m.wrong() && len(l) > 0 {
		l = pick(m, l[1:], append(l, l[0]))
	}
	return l, true
}

func (m *maker) call(there []known, text string) (api.Value, bool) {
	for range 12 {
		name := pick(m, "id", "not", "no", "none", "two", "see", "touch", "pair", "all", "d::take", "d::make", "d::read")
		f, _ := m.reader.s.Func(name)
		if textOf(f.Result) != text && text != "any" && !m.wrong() {
			continue
		}
		args, is := m.args(there, f.Params)
		if m.wrong() {
			name = pick(m, "u", "make", "d::id", "P")
		}
		return api.Value{Kind: api.ValueCall, Name: name, Args: args}, is
	}
	return api.Value{}, false
}

func (m *maker) makes(there []known, text string) (api.Value, bool) {
	x, is := m.reader.s.Struct(text)
	if !is {
		return api.Value{}, false
	}
	args, is := m.args(there, x.Fields)
	names := m.steps(text)
	if m.wrong() && len(names) > 1 {
		slices.Reverse(names)
	}
	if m.wrong() && len(names) > 0 {
		names[0] = "u"
	}
	for len(names) > len(args) {
		names = names[:len(args)]
	}
	for len(args) > len(names) {
		args = args[:len(names)]
	}
	return api.Value{Kind: api.ValueMake, Name: text, Names: names, Args: args}, is
}

func (m *maker) reference(there []known, text string) (api.Value, bool) {
	inner, is := below(text)
	if !is {
		return api.Value{}, false
	}
	if copies(text) {
		p, is := m.place(there, inner, anyPlace)
		return api.Value{Kind: api.ValueRef, Place: p}, is
	}
	p, is := m.place(there, inner, m.changeable(there))
	return api.Value{Kind: api.ValueMut, Place: p}, is
}

func (m *maker) operation(there []known, text string) (api.Value, bool) {
	op, asked := pick(m, api.OpAdd, api.OpSub), "int"
	switch {
	case text == "bool" && m.rare(3):
		a, is := m.oper(there, "bool")
		return api.Value{Kind: api.ValueNot, A: a}, is
	case text == "bool":
		op = pick(m, api.OpLess, api.OpSame, api.OpSame)
		if op == api.OpSame {
			asked = pick(m, "int", "bool")
		}
	case text != "int":
		return api.Value{}, false
	}
	a, is := m.oper(there, asked)
	b, also := m.oper(there, asked)
	return api.Value{Kind: api.ValueOp, Op: op, A: a, B: b}, is && also
}

// value is one of a type, if one is found.
func (m *maker) value(there []known, text string) (api.Value, bool) {
	if m.wrong() {
		text = pick(m, "int", "bool", "P", "&int", "&mut P", "")
	}
	for range 8 {
		v, is := api.Value{}, false
		switch m.r.Intn(5) {
		case 0:
			var a api.Oper
			a, is = m.oper(there, text)
			v = api.Value{Kind: api.ValueOper, A: a}
		case 1:
			v, is = m.reference(there, text)
		case 2:
			v, is = m.operation(there, text)
		case 3:
			v, is = m.call(there, text)
		case 4:
			v, is = m.makes(there, text)
		}
		if is {
			return v, true
		}
	}
	return api.Value{}, false
}

// block is a list of statements; there is what is there ahead of it.
func (m *maker) block(there []known, looped bool, deep int) []api.Stmt {
	var l []api.Stmt
	for m.room > 0 && !m.rare(7) {
		m.room--
		x, is := m.stmt(there, looped, deep)
		if !is {
			continue
		}
		l = append(l, x)
		if x.Kind == api.StmtLet {
			there = append(there[:len(there):len(there)], known{x.Name, textOf(x.Type), x.Mut})
		}
		if !wantGoesOne(x) && !m.wrong() {
			break
		}
	}
	return l
}

// stmt is a statement, if what was thought of is found.
func (m *maker) stmt(there []known, looped bool, deep int) (api.Stmt, bool) {
	m.at += 1 + m.r.Intn(5)
	x := api.Stmt{At: m.at, Kind: pick(m, 1, 1, 1, 1, 1, 2, 2, 2, 2, 3, 3, 4, 4, 5, 6, 7, 8, 9, 10, 11)}
	is := true
	switch x.Kind {
	case api.StmtLet:
		return m.let(x, there)
	case api.StmtSet:
		x.Place, is = m.place(there, "", m.changeable(there))
		text, _, _, _ := m.reader.place(x.Place, there)
		if is {
			x.Value, is = m.value(there, text)
		}
	case api.StmtCall:
		x.Value, is = m.call(there, "any")
	case api.StmtIf, api.StmtWhile:
		x.Cond, is = m.oper(there, "bool")
		fallthrough
	case api.StmtLoop, api.StmtBlock:
		if deep == 0 {
			return x, false
		}
		inner := looped || x.Kind == api.StmtWhile || x.Kind == api.StmtLoop
		x.Then = m.block(there, inner, deep-1)
		if x.Kind == api.StmtIf && m.rare(2) {
			x.Has, x.Else = true, m.block(there, inner, deep-1)
		}
	case api.StmtBreak, api.StmtContinue:
		is = looped || m.wrong()
	case api.StmtReturn:
		return m.giveBack(x, there)
	case api.StmtDrop:
		x.Place, is = m.place(there, "", func(p api.Place) bool {
			text, _, through, bad := m.reader.place(p, there)
			return bad == nil && !copies(text) && !through
		})
	}
	return x, is
}

func (m *maker) let(x api.Stmt, there []known) (api.Stmt, bool) {
	m.count++
	x.Name = "n" + string(rune('a'+m.count%26)) + string(rune('a'+m.count/26%26))
	if m.wrong() {
		x.Name = pick(m, there...).name
	}
	x.Type, x.Mut, x.Has = m.typeOf(2), m.rare(2), !m.rare(6)
	if !x.Has {
		x.Mut = x.Mut || !m.wrong()
		return x, true
	}
	v, is := m.value(there, textOf(x.Type))
	x.Value = v
	return x, is
}

func (m *maker) giveBack(x api.Stmt, there []known) (api.Stmt, bool) {
	x.Has = m.reader.f.Result.Kind != api.KindUnit
	if m.wrong() {
		x.Has = !x.Has
	}
	if !x.Has {
		return x, true
	}
	v, is := m.value(there, textOf(m.reader.f.Result))
	x.Value = v
	return x, is
}

// body is a function's; it ends by a return for the most part, where one is asked.
func (m *maker) body(count int) []api.Stmt {
	m.room = count
	var there []known
	for _, p := range m.reader.f.Params {
		there = append(there, known{p.Name, textOf(p.Type), p.Mut})
	}
	l := m.block(there, false, 4)
	if m.reader.f.Result.Kind == api.KindUnit || !wantGoes(l) {
		return l
	}
	m.at++
	if x, is := m.giveBack(api.Stmt{Kind: api.StmtReturn, At: m.at}, there); is && !m.wrong() {
		l = append(l, x)
	}
	return l
}
