package scope_test

import (
	"math/rand"
	"reflect"
	"slices"
	"strings"
	"testing"

	"usufruct/api"
	"usufruct/scope"
	"usufruct/sig"
)

// maker makes crates by chance, most of them right; w is what there is for the item that it makes.
type maker struct {
	r *rand.Rand
	w want
}

func newMaker(seed int64) *maker { return &maker{r: rand.New(rand.NewSource(seed))} }

// rare is true once in n.
func (m *maker) rare(n int) bool { return m.r.Intn(n) == 0 }

func (m *maker) pick(of ...string) string { return of[m.r.Intn(len(of))] }

func (m *maker) some(most int, one func()) {
	for range m.r.Intn(most + 1) {
		one()
	}
}

// known are the names of all structs that there are, as they are called.
func (m *maker) known() []string {
	var l []string
	for _, x := range m.w.c.Structs {
		l = append(l, x.Name)
	}
	for _, d := range m.w.deps {
		for _, x := range d.Structs {
			l = append(l, d.Name+"::"+x.Name)
		}
	}
	return l
}

func (m *maker) structType(lives []string) api.Type {
	l := m.known()
	if len(l) == 0 || m.rare(20) {
		l = []string{"S", "T", "R", "k::S", "d::S", "e::T", "z::S", "f"}
	}
	t := named(m.pick(l...))
	x, _ := m.w.structOf(t.Name)
	n := len(x.Lives)
	if m.rare(20) {
		n = m.r.Intn(3)
	}
	for range n {
		t.Lives = append(t.Lives, m.life(lives))
	}
	return t
}

func (m *maker) life(lives []string) string {
	if len(lives) == 0 || m.rare(30) {
		return m.pick("a", "b", "c", "z")
	}
	return m.pick(lives...)
}

func (m *maker) typeOf(lives []string) api.Type {
	switch m.r.Intn(7) {
	case 0:
		return number()
	case 1:
		return truth()
	case 2, 3:
		return m.structType(lives)
	case 4:
		return mutRef(m.typeOf(lives), m.life(lives))
	}
	if m.rare(12) {
		return ref(m.typeOf(lives))
	}
	return ref(m.typeOf(lives), m.life(lives))
}

func (m *maker) lives() []string {
	l := []string{"a", "b", "c"}[:m.r.Intn(4)]
	if m.rare(15) {
		l = append(slices.Clone(l), m.pick("a", "b", "z"))
	}
	return slices.Clone(l)
}

func (m *maker) fields(lives []string) []api.Field {
	names := []string{"x", "y", "z"}
	var l []api.Field
	m.some(3, func() {
		name := names[len(l)]
		if m.rare(15) {
			name = "x"
		}
		l = append(l, api.Field{Name: name, Type: m.typeOf(lives)})
	})
	return l
}

func (m *maker) structOf() api.Struct {
	lives := m.lives()
	return api.Struct{Pub: m.rare(2), Name: m.pick("S", "T", "R", "Q", "P"), Lives: lives, Fields: m.fields(lives)}
}

func (m *maker) funcOf() api.Func {
	lives := m.lives()
	f := api.Func{Pub: m.rare(2), Name: m.pick("f", "g", "h", "i", "S"), Params: m.fields(lives)}
	for _, name := range lives {
		l := life(name)
		m.some(2, func() { l.Over = append(l.Over, m.life(lives)) })
		f.Lives = append(f.Lives, l)
	}
	for i := range f.Params {
		f.Params[i].Mut = m.rare(2)
	}
	if m.rare(2) {
		f.Result = m.typeOf(lives)
	}
	m.some(2, func() { f.Body = append(f.Body, api.Stmt{Kind: api.StmtReturn, At: m.r.Intn(9)}) })
	return f
}

// tried makes one again and again, until it is right; but at times it takes what comes.
func tried[T any](m *maker, wrong int, one func() T, faults func(x T) []api.Errno) T {
	x := one()
	for firstOf(faults(x)) != api.OK && !m.rare(wrong) {
		x = one()
	}
	return x
}

// spoil changes one thing within what x points to.
func (m *maker) spoil(x any) {
	var spots []reflect.Value
	each(reflect.ValueOf(x).Elem(), func(v reflect.Value) {
		if v.Kind() != reflect.Struct {
			spots = append(spots, v)
		}
	})
	switch v := spots[m.r.Intn(len(spots))]; v.Kind() {
	case reflect.Int:
		v.SetInt(int64(m.r.Intn(8) - 1))
	case reflect.Bool:
		v.SetBool(!v.Bool())
	case reflect.String:
		v.SetString(m.pick("", "a", "b", "x", "y", "S", "T", "f", "k", "d", "d::S", "e::T", "let"))
	case reflect.Slice:
		n := m.r.Intn(v.Len() + 1)
		if n < v.Len() {
			v.Set(v.Slice(0, n))
			return
		}
		more := reflect.Zero(v.Type().Elem())
		if n > 0 {
			more = cloned(v.Index(m.r.Intn(n)), false)
		}
		v.Set(reflect.Append(v, more))
	}
}

// crate is one in which, in each wrong tries for an item, one is taken as it comes.
func (m *maker) crate(wrong int, deps ...api.Sig) api.Crate {
	m.w = want{deps: deps}
	at := m.r.Intn(5)
	m.some(4, func() {
		x := tried(m, wrong, m.structOf, m.w.structFaults)
		at += 1 + m.r.Intn(9)
		x.At = at
		m.w.c.Structs = append(m.w.c.Structs, x)
	})
	m.some(4, func() {
		f := tried(m, wrong, m.funcOf, m.w.funcFaults)
		at += 1 + m.r.Intn(9)
		f.At = at
		m.w.c.Funcs = append(m.w.c.Funcs, f)
	})
	return m.w.c
}

// never is more tries than there are.
const never = 1 << 40

func (m *maker) deps() []api.Sig {
	var l []api.Sig
	for _, name := range []string{"d", "e"} {
		switch m.r.Intn(8) {
		case 0:
		case 1:
			l = append(l, sig.Of(name, m.crate(2)))
		default:
			l = append(l, sig.Of(name, m.crate(never)))
		}
	}
	return l
}

var allNames = strings.Fields("S T R Q P f g h i d::S d::T d::R d::Q d::P d::f d::g d::h d::i e::S e::T e::R e::f e::g k::S k::f z::S d e a")

// 13.1, 13.3, 13.4

func TestCratesByChance(t *testing.T) {
	told := map[api.Errno]int{}
	for seed := range int64(5000) {
		m := newMaker(seed)
		deps := m.deps()
		c := m.crate(20, deps...)
		s := made(t, "k", deps, c)
		code, _ := wantNew("k", deps, c)
		told[code]++
		if s == nil {
			continue
		}
		own := want{deps: deps, c: c}
		asked(t, s, own, allNames)
		right(t, s, own)
		m.w = own
		for range 20 {
			lives := m.lives()
			typed(t, s, own, m.typeOf(m.lives()), lives, m.rare(2))
		}
	}
	for _, code := range []api.Errno{api.OK, api.ErrTwice, api.ErrLife, api.ErrName, api.ErrArgs} {
		if told[code] < 15 {
			t.Errorf("error %d was told %d times alone", code, told[code])
		}
	}
}

// 13.5

// right asks for what is promised of the headers of all that New took, of a scope k.
func right(t *testing.T, s *scope.Scope, w want) {
	t.Helper()
	names := map[string]bool{}
	take := func(name string) {
		if names[name] {
			t.Fatalf("13.5: two are %s: %s", name, short(w.c))
		}
		names[name] = true
	}
	for _, x := range w.c.Structs {
		take(x.Name)
		itself := map[pair]bool{}
		for _, a := range x.Lives {
			itself[pair{a, a}] = true
		}
		for _, f := range x.Fields {
			rightType(t, s, w, f.Type, x.Lives, itself, x.Pub)
		}
	}
	for _, f := range w.c.Funcs {
		take(f.Name)
		lives := livesOf(f)
		for _, l := range f.Lives {
			for _, over := range l.Over {
				if !scope.Over(f, l.Name, over) {
					t.Fatalf("13.5: %s outlives %s: %s", l.Name, over, short(f))
				}
			}
		}
		for _, p := range f.Params {
			rightType(t, s, w, p.Type, lives, wantOver(f), f.Pub)
		}
		if f.Result.Kind != api.KindUnit {
			rightType(t, s, w, f.Result, lives, wantOver(f), f.Pub)
		}
	}
	takenByOthers(t, w)
}

func livesOf(f api.Func) []string {
	return times(len(f.Lives), func(i int) string { return f.Lives[i].Name })
}

func rightType(t *testing.T, s *scope.Scope, w want, x api.Type, lives []string, outlives map[pair]bool, pub bool) {
	t.Helper()
	isError(t, "13.5: "+short(x), s.Type(x, lives, false), api.OK, 0)
	if !wantWell(x, outlives) {
		t.Fatalf("13.5: not well: %s in %s", short(x), short(w.c))
	}
	if pub && !w.shown(x) {
		t.Fatalf("13.5: not shown: %s in %s", short(x), short(w.c))
	}
}

// takenByOthers asks that a crate with the sig of k as its dependency has all that the sig shows, with types that are right there.
func takenByOthers(t *testing.T, w want) {
	t.Helper()
	shown := sig.Of("k", w.c)
	if !sig.May(shown) {
		t.Fatalf("13.5: the sig may not be: %s", short(shown))
	}
	var user api.Crate
	for _, x := range shown.Structs {
		user.Structs = append(user.Structs, api.Struct{Name: x.Name, Lives: x.Lives, Fields: []api.Field{{Name: "f", Type: named("k::"+x.Name, x.Lives...)}}})
	}
	o, err := scope.New("other", []api.Sig{shown}, user)
	if err != nil {
		t.Fatalf("13.5: %v: %s is not taken", err, short(shown))
	}
	for _, own := range shown.Structs {
		x, is := o.Struct("k::" + own.Name)
		if !is || !alike(x.Lives, own.Lives) || len(x.Fields) != len(own.Fields) {
			t.Fatalf("13.5: %t, %s, not %s", is, short(x), short(own))
		}
		for _, f := range x.Fields {
			isError(t, "13.5: for others: "+short(x), o.Type(f.Type, x.Lives, false), api.OK, 0)
		}
	}
	for _, own := range shown.Funcs {
		f, is := o.Func("k::" + own.Name)
		if !is || !alike(f.Lives, own.Lives) || len(f.Params) != len(own.Params) {
			t.Fatalf("13.5: %t, %s, not %s", is, short(f), short(own))
		}
		for _, p := range f.Params {
			isError(t, "13.5: for others: "+short(f), o.Type(p.Type, livesOf(f), false), api.OK, 0)
		}
		if f.Result.Kind != api.KindUnit {
			isError(t, "13.5: for others: "+short(f), o.Type(f.Result, livesOf(f), false), api.OK, 0)
		}
	}
}

func TestSigsAreTakenByOthers(t *testing.T) {
	for _, text := range []string{
		ownText,
		typesText,
		"pub struct A<'a> { f: &'a int } pub struct B<'a, 'b> { f: &'a A<'a>, g: A<'b> } struct C<'a> { f: B<'a, 'a>, g: d::T<'a> } pub fn f<'a, 'b: 'a>(x: &'a B<'b, 'b>) -> &'a A<'a> { loop { } } fn g(x: d::P) { }",
		"pub fn f() { } struct S { f: e::E }",
		"",
	} {
		c, s := scoped(t, text)
		right(t, s, want{deps: deps(t), c: c})
	}
}

// A chain of crates, each of which takes the sig of the one ahead of it.
func TestSigsAreTakenOneBehindTheOther(t *testing.T) {
	for seed := range int64(400) {
		m := newMaker(seed)
		var l []api.Sig
		for _, name := range strings.Fields("d e f g h") {
			c := m.crate(never, l...)
			s := made(t, name, l, c)
			if s == nil {
				t.Fatalf("13.5: %s is not taken", short(c))
			}
			l = append(l, sig.Of(name, c))
		}
	}
}

func TestSpoiltByChance(t *testing.T) {
	told := map[api.Errno]int{}
	for seed := range int64(5000) {
		m := newMaker(seed)
		deps := clone(m.deps())
		c := clone(m.crate(never, deps...))
		name := "k"
		if m.rare(2) || len(deps) == 0 {
			m.spoil(&c)
		} else {
			m.spoil(&deps)
		}
		if m.rare(30) {
			name = m.pick("d", "e", "fn", "", "d::k", "S")
		}
		code, _ := wantNew(name, deps, c)
		told[code]++
		if s := made(t, name, deps, c); s != nil {
			asked(t, s, want{deps: deps, c: c}, allNames)
		}
	}
	for _, code := range []api.Errno{api.OK, api.ErrArg, api.ErrTwice, api.ErrLife, api.ErrName, api.ErrArgs} {
		if told[code] < 15 {
			t.Errorf("error %d was told %d times alone", code, told[code])
		}
	}
}
