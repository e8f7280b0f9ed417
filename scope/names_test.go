package scope_test

import (
	"reflect"
	"slices"
	"strings"
	"testing"

	"usufruct/api"
	"usufruct/scope"
)

// 13.1

const ownText = `
	struct S { }
	pub struct R<'a> { s: &'a int, b: bool }
	struct V<'a, 'b> { s: S, r: R<'b>, t: d::T<'a>, w: &'a mut d::W<'a, 'a> }
	fn f(x: S) { let r: &int = &x; if true { g(1); } else { loop { break; } } return; }
	pub fn g<'a: 'b, 'b>(mut x: &'b R<'a>, y: int) -> R<'b> { loop { } }
	fn m() -> d::P { return d::P { n: 1, b: true }; }`

func TestNamesOfItsOwn(t *testing.T) {
	c, s := scoped(t, ownText)
	for _, want := range c.Structs {
		if x, is := s.Struct(want.Name); !is || !alike(x, want) {
			t.Errorf("13.1: Struct(%q): %t, %s, not %s", want.Name, is, short(x), short(want))
		}
		if f, is := s.Func(want.Name); is || !reflect.DeepEqual(f, api.Func{}) {
			t.Errorf("13.1: Func(%q): %t, %s", want.Name, is, short(f))
		}
	}
	for _, want := range c.Funcs {
		if f, is := s.Func(want.Name); !is || !alike(f, want) {
			t.Errorf("13.1: Func(%q): %t, %s, not %s", want.Name, is, short(f), short(want))
		}
		if x, is := s.Struct(want.Name); is || !reflect.DeepEqual(x, api.Struct{}) {
			t.Errorf("13.1: Struct(%q): %t, %s", want.Name, is, short(x))
		}
	}
}

func TestNamesOfDependencies(t *testing.T) {
	_, s := scoped(t, ownText)
	for _, want := range []api.Struct{
		{Pub: true, Name: "d::P", Fields: []api.Field{{Name: "n", Type: number()}, {Name: "b", Type: truth()}}},
		{Pub: true, Name: "d::T", Lives: []string{"x"}, Fields: []api.Field{{Name: "f", Type: ref(number(), "x")}, {Name: "p", Type: named("d::P")}}},
		{Pub: true, Name: "d::W", Lives: []string{"x", "y"}, Fields: []api.Field{{Name: "f", Type: mutRef(named("d::T", "x"), "x")}, {Name: "g", Type: named("d::T", "y")}}},
		{Pub: true, Name: "e::E"},
	} {
		if x, is := s.Struct(want.Name); !is || !alike(x, want) {
			t.Errorf("13.1: Struct(%q): %t, %s, not %s", want.Name, is, short(x), short(want))
		}
	}
	for _, want := range []api.Func{
		{Pub: true, Name: "d::g", Lives: []api.Life{life("x", "y"), life("y")}, Params: []api.Field{{Name: "a", Type: named("d::T", "x")}, {Mut: true, Name: "b", Type: mutRef(truth(), "y")}}, Result: ref(named("d::T", "y"), "x")},
		{Pub: true, Name: "d::h"},
		{Pub: true, Name: "e::g", Params: []api.Field{{Name: "x", Type: named("e::E")}}},
	} {
		if f, is := s.Func(want.Name); !is || !alike(f, want) {
			t.Errorf("13.1: Func(%q): %t, %s, not %s", want.Name, is, short(f), short(want))
		}
	}
}

func TestNamesThatAreNotThere(t *testing.T) {
	_, s := scoped(t, ownText)
	_, bare := scoped(t, "")
	var none *scope.Scope
	for _, name := range []string{
		"", "s", "Z", "P", "T", "h", "int", "fn", "a", "x", "k", "d", "e",
		"k::S", "k::f", "k::g", "d::Q", "d::q", "d::S", "d::f", "e::T", "e::h", "z::T", "z::g", "D::T", "d::t", "d::G",
		"d::", "::T", "::", "d:T", "d.T", "d::T::", "d::d::T", "d::T::f", "d:: T", " d::T", "d::T ", "S ", "\x00", "\xFF", strings.Repeat("S", 1<<16),
	} {
		for _, s := range []*scope.Scope{s, bare, none, new(scope.Scope)} {
			x, isX := s.Struct(name)
			f, isF := s.Func(name)
			if isX || isF || !reflect.DeepEqual(x, api.Struct{}) || !reflect.DeepEqual(f, api.Func{}) {
				t.Errorf("13.1: %q: %t, %s, %t, %s", name, isX, short(x), isF, short(f))
			}
		}
	}
}

func TestNilScopeHasNone(t *testing.T) {
	_, s := scoped(t, ownText)
	var none *scope.Scope
	for _, name := range []string{"S", "R", "d::T", "d::P", "e::E", "f", "g", "d::g"} {
		x, isX := none.Struct(name)
		f, isF := none.Func(name)
		if isX || isF || !reflect.DeepEqual(x, api.Struct{}) || !reflect.DeepEqual(f, api.Func{}) {
			t.Errorf("13.1: %q of a nil Scope: %t, %t", name, isX, isF)
		}
		if _, isX := s.Struct(name); !isX {
			continue
		}
		isError(t, "13.1: a type of a nil Scope", none.Type(named(name), nil, true), api.ErrName, 0)
		isError(t, "13.1: a type of a nil Scope", none.Type(ref(named(name), "a"), []string{"a"}, false), api.ErrName, 0)
	}
	isError(t, "13.3: int", none.Type(number(), nil, false), api.OK, 0)
	isError(t, "13.3: a reference", none.Type(ref(number(), "z"), []string{"a"}, true), api.ErrLife, 0)
}

// A sig may have types of which the crate that it is of knows more than others do.
func TestAllNamesWithinDependencies(t *testing.T) {
	deep := ref(mutRef(ref(named("e::E", "a", "b"), "a")), "b")
	d := api.Sig{
		Name:    "d",
		Structs: []api.Struct{{Pub: true, Name: "S", Fields: []api.Field{{Name: "f", Type: named("S")}, {Name: "g", Type: deep}, {Name: "h", Type: named("d::S")}}}},
		Funcs:   []api.Func{{Pub: true, Name: "S", Params: []api.Field{{Name: "x", Type: deep}, {Mut: true, Name: "y", Type: mutRef(number())}}, Result: deep}},
	}
	far := ref(mutRef(ref(named("d::e::E", "a", "b"), "a")), "b")
	s, err := scope.New("k", []api.Sig{d}, api.Crate{})
	if err != nil {
		t.Fatalf("13.4: %v", err)
	}
	wantX := api.Struct{Pub: true, Name: "d::S", Fields: []api.Field{{Name: "f", Type: named("d::S")}, {Name: "g", Type: far}, {Name: "h", Type: named("d::d::S")}}}
	if x, is := s.Struct("d::S"); !is || !alike(x, wantX) {
		t.Fatalf("13.1: %t, %s, not %s", is, short(x), short(wantX))
	}
	wantF := api.Func{Pub: true, Name: "d::S", Params: []api.Field{{Name: "x", Type: far}, {Mut: true, Name: "y", Type: mutRef(number())}}, Result: far}
	if f, is := s.Func("d::S"); !is || !alike(f, wantF) {
		t.Fatalf("13.1: %t, %s, not %s", is, short(f), short(wantF))
	}
}

// One name in each of the crate and two dependencies.
func TestNamesBesideEachOther(t *testing.T) {
	one := func(name string, field string) api.Sig {
		return api.Sig{Name: name, Structs: []api.Struct{{Pub: true, Name: "S", Fields: []api.Field{{Name: field, Type: named("S")}}}}}
	}
	c := parsed(t, "fn f() { } struct S { k: int } fn g(x: d::S, y: &'a e::S) { }")
	c.Funcs[1].Lives = []api.Life{life("a")}
	s, err := scope.New("k", []api.Sig{one("e", "ee"), one("d", "dd")}, c)
	if err != nil {
		t.Fatalf("13.4: %v", err)
	}
	for name, field := range map[string]string{"S": "k", "d::S": "dd", "e::S": "ee"} {
		if x, is := s.Struct(name); !is || x.Name != name || len(x.Fields) != 1 || x.Fields[0].Name != field {
			t.Errorf("13.1: Struct(%q): %t, %s", name, is, short(x))
		}
	}
	for name, within := range map[string]string{"d::S": "d::S", "e::S": "e::S"} {
		if x, _ := s.Struct(name); x.Fields[0].Type.Name != within {
			t.Errorf("13.1: Struct(%q): %s", name, short(x))
		}
	}
}

func TestScopeIsItsOwn(t *testing.T) {
	sigs, c := deps(t), parsed(t, ownText)
	s, err := scope.New("k", sigs, c)
	if err != nil {
		t.Fatal(err)
	}
	w := want{deps: clone(sigs), c: clone(c)}
	names := []string{"S", "R", "V", "f", "g", "m", "d::P", "d::T", "d::W", "d::g", "d::h", "e::E", "e::g"}
	spoil(&sigs)
	spoil(&c)
	asked(t, s, w, names)
	for _, name := range names {
		x, _ := s.Struct(name)
		f, _ := s.Func(name)
		againX, _ := s.Struct(name)
		againF, _ := s.Func(name)
		own(t, "13.1: "+name, x, f, againX, againF, sigs, c)
		spoil(&x)
		spoil(&f)
	}
	asked(t, s, w, names)
}

// Lists that are one in what is handed in, and that have room behind them.
func TestAnswersShareNothing(t *testing.T) {
	shared := append(make([]string, 0, 9), "a", "b")
	fields := []api.Field{{Name: "f", Type: named("T", shared...)}, {Name: "g", Type: named("T", shared...)}}
	c := api.Crate{
		Structs: []api.Struct{{Name: "T", Lives: shared}, {Name: "S", Lives: shared, Fields: fields}},
		Funcs:   []api.Func{{Name: "f", Lives: []api.Life{life("a", shared...), life("b", shared...)}, Params: fields, Result: named("T", shared...)}},
	}
	d := api.Sig{Name: "d", Structs: []api.Struct{
		{Pub: true, Name: "T", Lives: shared},
		{Pub: true, Name: "S", Lives: shared, Fields: fields},
	}, Funcs: []api.Func{{Pub: true, Name: "f", Params: fields}, {Pub: true, Name: "g", Params: fields}}}
	s, err := scope.New("k", []api.Sig{d}, c)
	if err != nil {
		t.Fatal(err)
	}
	w := want{deps: clone([]api.Sig{d}), c: clone(c)}
	names := []string{"T", "S", "f", "d::T", "d::S", "d::f", "d::g"}
	asked(t, s, w, names)
	var answers []any
	for _, name := range names {
		x, _ := s.Struct(name)
		f, _ := s.Func(name)
		answers = append(answers, x, f)
	}
	own(t, "13.1: all answers", answers...)
	shared[0] = "z"
	fields[1].Name = "z"
	asked(t, s, w, names)
}

func TestNewLeavesWhatIsHandedIn(t *testing.T) {
	type args struct {
		Deps []api.Sig
		C    api.Crate
	}
	right := args{deps(t), parsed(t, ownText)}
	wrong := args{deps(t), parsed(t, ownText+"fn f() { }")}
	for _, x := range []args{right, hollowed(right), wrong, hollowed(wrong), {}, {Deps: []api.Sig{{}}}} {
		kept(t, "13.4: New", x, func(x args) { scope.New("k", x.Deps, x.C) })
	}
	s := made(t, "k", hollowed(right).Deps, hollowed(right).C)
	asked(t, s, want{deps: right.Deps, c: right.C}, []string{"S", "R", "V", "f", "g", "m", "d::P", "d::T", "d::W", "d::g", "d::h"})
}

func TestScopeStaysAsItIs(t *testing.T) {
	_, s := scoped(t, ownText)
	ahead, _ := s.Func("g")
	for range 3 {
		s.Type(named("d::T", "a"), []string{"a"}, false)
		s.Struct("d::T")
		scoped(t, "fn other() { }")
		if f, is := s.Func("g"); !is || !alike(f, ahead) {
			t.Fatalf("13.1: %s, not %s", short(f), short(ahead))
		}
	}
	if !slices.Equal(ahead.Lives[0].Over, []string{"b"}) {
		t.Fatalf("13.1: %s", short(ahead))
	}
}
