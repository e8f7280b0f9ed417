package sig_test

import (
	"fmt"
	"math"
	"reflect"
	"strings"
	"testing"

	"usufruct/api"
	"usufruct/sig"
)

// 12.1: Of

func TestOfShowsWhatIsPub(t *testing.T) {
	c := parsed(t, "pub struct S<'a> { f: &'a mut int } struct P { } fn q() { } pub fn f<'a: 'b, 'b>(mut x: S<'a>) -> d::T<'b> { g(); }")
	want := api.Sig{
		Name:    "k",
		Structs: []api.Struct{{Pub: true, Name: "S", Lives: []string{"a"}, Fields: []api.Field{field("f", mutRef(number(), "a"))}}},
		Funcs: []api.Func{{Pub: true, Name: "f", Lives: []api.Life{{Name: "a", Over: []string{"b"}}, {Name: "b"}},
			Params: []api.Field{mutParam("x", named("S", "a"))}, Result: named("d::T", "b")}},
	}
	if s := sig.Of("k", c); !alike(s, want) {
		t.Fatalf("12.1: %s, not %s", short(s), short(want))
	}
}

func TestOfInEveryOrder(t *testing.T) {
	for n := range 6 {
		for pub := range 1 << n {
			var c api.Crate
			var want api.Sig
			for i := range n {
				seen := pub>>i&1 == 1
				name := fmt.Sprint("n", i)
				c.Structs = append(c.Structs, api.Struct{Pub: seen, Name: name, At: i})
				c.Funcs = append(c.Funcs, api.Func{Pub: !seen, Name: name, At: n - i, Body: []api.Stmt{{Kind: api.StmtReturn}}})
				if seen {
					want.Structs = append(want.Structs, api.Struct{Pub: true, Name: name})
				} else {
					want.Funcs = append(want.Funcs, api.Func{Pub: true, Name: name})
				}
			}
			if s := sig.Of("", c); !alike(s, want) {
				t.Fatalf("12.1: %s, not %s", short(s), short(want))
			}
		}
	}
}

func TestOfCratesThatShowNothing(t *testing.T) {
	for _, text := range []string{"", "struct S { } fn f() { }", "fn f() { } fn g() { f(); }", "struct S { }"} {
		s := sig.Of("k", parsed(t, text))
		if s.Name != "k" || len(s.Structs) != 0 || len(s.Funcs) != 0 || !sig.May(s) {
			t.Fatalf("12.1: of %q: %s", text, short(s))
		}
	}
}

func TestOfKeepsWhatIsTwice(t *testing.T) {
	s := sig.Of("k", parsed(t, "pub fn f() { } pub struct S { } pub fn f(x: int) { } pub struct S { x: int }"))
	if len(s.Structs) != 2 || len(s.Funcs) != 2 || len(s.Structs[1].Fields) != 1 || len(s.Funcs[1].Params) != 1 {
		t.Fatalf("12.1: %s", short(s))
	}
}

func TestOfAnyName(t *testing.T) {
	for _, name := range []string{"", "k", "fn", "1", "a::b", "\xFF", long(33), long(100000)} {
		if s := sig.Of(name, api.Crate{}); s.Name != name || sig.May(s) != (name == "k") {
			t.Fatalf("12.1: of the name %q: %s", name, short(s))
		}
	}
}

// stuff gives all within v values that are not zero; deep is how many times what is within itself may be so.
func stuff(v reflect.Value, deep int, next *int) {
	*next++
	switch v.Kind() {
	case reflect.Int:
		v.SetInt(int64(*next))
	case reflect.Bool:
		v.SetBool(true)
	case reflect.String:
		v.SetString(fmt.Sprint("t", *next))
	case reflect.Struct:
		for i := range v.NumField() {
			stuff(v.Field(i), deep, next)
		}
	case reflect.Slice:
		if within := v.Type().Elem(); within == reflect.TypeFor[api.Stmt]() || within == reflect.TypeFor[api.Type]() {
			deep--
		}
		if deep < 0 {
			return
		}
		v.Set(reflect.MakeSlice(v.Type(), 2, 3))
		for i := range v.Len() {
			stuff(v.Index(i), deep, next)
		}
	}
}

// stuffed has something in every field that there is, and may not be.
func stuffed() api.Crate {
	var c api.Crate
	next := 0
	stuff(reflect.ValueOf(&c).Elem(), 2, &next)
	return c
}

func TestOfCratesThatMayNotBe(t *testing.T) {
	c := stuffed()
	if s, want := sig.Of("k", c), wantOf("k", c); !alike(s, want) {
		t.Fatalf("12.1: %s, not %s", short(s), short(want))
	}
	refused(t, "a crate that may not be", sig.Of("k", c))
	many := api.Crate{Structs: someStructs(3000), Funcs: someFuncs(3000)}
	if s := sig.Of("k", many); len(s.Structs) != 3000 || len(s.Funcs) != 3000 {
		t.Fatalf("12.1: %d and %d of 3000", len(s.Structs), len(s.Funcs))
	}
	far := ofResult(deep(1 << 16))
	if s := sig.Of("k", api.Crate{Funcs: far.Funcs}); !alike(s, far) {
		t.Fatal("12.1: a deep type")
	}
}

func TestOfIsTheCallersOwn(t *testing.T) {
	shared := []string{"a", "b"}
	c := api.Crate{Structs: []api.Struct{
		{Pub: true, Name: "S", Lives: shared, Fields: []api.Field{field("f", named("T", shared...))}},
		{Pub: true, Name: "T", Lives: shared[:1], Fields: make([]api.Field, 0, 3)},
	}, Funcs: []api.Func{
		{Pub: true, Name: "f", Lives: []api.Life{{Name: "a", Over: shared}}, Result: named("S", shared[:0]...)},
	}}
	s := sig.Of("k", c)
	want := clone(s)
	own(t, "12.1: lists that are one in the crate", s)
	shared[0], shared[1] = "x", "y"
	c.Structs[0].Fields[0].Name = "x"
	c.Structs[1].Name = "x"
	c.Funcs[0].Lives[0].Name = "x"
	if !alike(s, want) {
		t.Fatal("12.1: it changes with what was handed in")
	}
	for _, c := range []api.Crate{stuffed(), hollowed(stuffed()), parsed(t, "pub struct S<'a> { f: &'a int } pub fn f(x: S<'a>) { }")} {
		own(t, "12.1: Of", sig.Of("k", c), c)
	}
}

func TestOfLeavesWhatIsHandedIn(t *testing.T) {
	for _, c := range []api.Crate{stuffed(), {}, hollowed(stuffed()), parsed(t, "fn q() { g(); } pub fn f(x: int) { loop { } } struct S { } pub struct T { }")} {
		kept(t, "Of", c, func(c api.Crate) { sig.Of("k", c) })
	}
}

// 12.1: May

func TestMay(t *testing.T) {
	for _, s := range []api.Sig{
		{Name: "k"},
		{Name: "_"},
		{Name: long(api.MaxName)},
		full(),
		hollowed(full()),
		ofResult(api.Type{}),
		ofResult(number()),
		ofField(deep(api.MaxDepth)),
		ofParam(deep(api.MaxDepth)),
		ofResult(deep(api.MaxDepth)),
		{Name: "k", Structs: someStructs(api.MaxItems)},
		{Name: "k", Funcs: someFuncs(api.MaxItems)},
		{Name: "k", Structs: someStructs(api.MaxItems - 1), Funcs: someFuncs(1)},
		ofField(named("S", names(api.MaxParts)...)),
		ofField(named(long(api.MaxName) + "::" + long(api.MaxName))),
		structs(api.Struct{Pub: true, Name: "S", Lives: names(api.MaxParts)}),
		funcs(api.Func{Pub: true, Name: "f", Lives: []api.Life{{Name: "a", Over: names(api.MaxParts)}}}),
	} {
		put(t, s)
	}
}

func TestMayNotByItsName(t *testing.T) {
	for _, name := range append([]string{"", "1", "1k", "k-", "a::b", "k ", " k", "k\n", "'a", "*", "é", "\x00", "\xFF", long(api.MaxName + 1), strings.Repeat("y", 1<<20)}, words...) {
		refused(t, "a name", api.Sig{Name: name})
		s := full()
		s.Name = name
		refused(t, "a name", s)
	}
}

func TestMayNotByWhatIsNoSigs(t *testing.T) {
	for i := range 3 {
		for what, change := range map[string]func(s *api.Sig){
			"a private struct":        func(s *api.Sig) { s.Structs[i].Pub = false },
			"a private function":      func(s *api.Sig) { s.Funcs[i].Pub = false },
			"a struct's place":        func(s *api.Sig) { s.Structs[i].At = 1 },
			"a struct's place below":  func(s *api.Sig) { s.Structs[i].At = -1 },
			"a struct's great place":  func(s *api.Sig) { s.Structs[i].At = math.MaxInt },
			"a function's place":      func(s *api.Sig) { s.Funcs[i].At = 1 },
			"a function's least":      func(s *api.Sig) { s.Funcs[i].At = math.MinInt },
			"a body":                  func(s *api.Sig) { s.Funcs[i].Body = []api.Stmt{{Kind: api.StmtReturn}} },
			"a body that may not be":  func(s *api.Sig) { s.Funcs[i].Body = []api.Stmt{{}} },
			"a struct's name":         func(s *api.Sig) { s.Structs[i].Name = "let" },
			"a struct of another one": func(s *api.Sig) { s.Structs[i].Name = "d::S" },
			"a function's name":       func(s *api.Sig) { s.Funcs[i].Name = "" },
		} {
			s := full()
			change(&s)
			refused(t, what, s)
		}
	}
}

// manyParts has a list that is one too long.
func manyParts() []api.Sig {
	over := api.MaxParts + 1
	fields := times(over, func(i int) api.Field { return field("x", number()) })
	return []api.Sig{
		structs(api.Struct{Pub: true, Name: "S", Lives: names(over)}),
		structs(api.Struct{Pub: true, Name: "S", Fields: fields}),
		funcs(api.Func{Pub: true, Name: "f", Params: fields}),
		funcs(api.Func{Pub: true, Name: "f", Lives: times(over, func(i int) api.Life { return api.Life{Name: "a"} })}),
		funcs(api.Func{Pub: true, Name: "f", Lives: []api.Life{{Name: "a", Over: names(over)}}}),
		ofField(named("S", names(over)...)),
		{Name: "k", Structs: someStructs(api.MaxItems + 1)},
		{Name: "k", Funcs: someFuncs(api.MaxItems + 1)},
		{Name: "k", Structs: someStructs(api.MaxItems), Funcs: someFuncs(1)},
		{Name: "k", Structs: someStructs(1), Funcs: someFuncs(api.MaxItems)},
		{Name: "k", Structs: someStructs(129), Funcs: someFuncs(128)},
	}
}

// badTypes are those that may stand nowhere, and can be told in bytes.
func badTypes() []api.Type {
	return []api.Type{
		{Kind: 6},
		{Kind: 300},
		named(""),
		named("let"),
		named("a::b::c"),
		named("a::"),
		named("::a"),
		named("a::fn"),
		named(long(api.MaxName + 1)),
		named("a::" + long(api.MaxName+1)),
		named("S", ""),
		named("S", "a", "1"),
		named("S", long(api.MaxName+1)),
		ref(number(), "a", "b"),
		mutRef(number(), "a", "b"),
		ref(number(), ""),
		mutRef(number(), "'a"),
		ref(api.Type{}),
		mutRef(api.Type{}, "a"),
		ref(ref(mutRef(api.Type{}))),
		deep(api.MaxDepth + 1),
		deep(api.MaxDepth + 2),
		ref(deep(api.MaxDepth), "a"),
		deep(10000),
	}
}

// badSigs may not be, and can be told in bytes.
func badSigs() []api.Sig {
	l := manyParts()
	for _, t := range badTypes() {
		l = append(l, ofField(t), ofParam(t), ofResult(t))
	}
	l = append(l, ofField(api.Type{}), ofParam(api.Type{}))
	for _, name := range []string{"", "1", "fn", "a::b", "a b", long(api.MaxName + 1), long(2*api.MaxName + 3)} {
		l = append(l,
			api.Sig{Name: name},
			structs(api.Struct{Pub: true, Name: name}),
			funcs(api.Func{Pub: true, Name: name}),
			structs(api.Struct{Pub: true, Name: "S", Fields: []api.Field{field("f", number()), field(name, number())}}),
			funcs(api.Func{Pub: true, Name: "f", Params: []api.Field{mutParam(name, number())}}),
		)
	}
	for _, name := range []string{"", "1", "'a", "a::b", long(api.MaxName + 1)} {
		l = append(l,
			structs(api.Struct{Pub: true, Name: "S", Lives: []string{"a", name}}),
			funcs(api.Func{Pub: true, Name: "f", Lives: []api.Life{{Name: name}}}),
			funcs(api.Func{Pub: true, Name: "f", Lives: []api.Life{{Name: "a", Over: []string{name}}}}),
		)
	}
	return l
}

func TestMayNotByItsCrate(t *testing.T) {
	for _, s := range badSigs() {
		refused(t, "a crate that may not be", s)
	}
	mut := ofField(number())
	mut.Structs[0].Fields[0].Mut = true
	for _, s := range []api.Sig{
		mut,
		ofParam(api.Type{Kind: -1}),
		ofParam(api.Type{Kind: math.MinInt}),
		ofParam(api.Type{Kind: api.KindInt, Name: "S"}),
		ofParam(api.Type{Kind: api.KindBool, Lives: []string{"a"}}),
		ofParam(api.Type{Kind: api.KindInt, Elem: []api.Type{number()}}),
		ofResult(api.Type{Name: "S"}),
		ofResult(api.Type{Lives: []string{"a"}}),
		ofResult(api.Type{Elem: []api.Type{number()}}),
		ofParam(api.Type{Kind: api.KindStruct, Name: "S", Elem: []api.Type{number()}}),
		ofParam(api.Type{Kind: api.KindRef}),
		ofParam(api.Type{Kind: api.KindMut, Elem: []api.Type{number(), number()}}),
		ofParam(api.Type{Kind: api.KindRef, Name: "S", Elem: []api.Type{number()}}),
	} {
		refused(t, "a crate that may not be", s)
	}
}

// Each thing within a sig is changed alone, in several ways.
func TestMayOfEveryChange(t *testing.T) {
	s := full()
	changed := 0
	each(reflect.ValueOf(&s).Elem(), "", func(path string, v reflect.Value) {
		if v.Kind() == reflect.Struct {
			return
		}
		before := cloned(v, false)
		for seed := range int64(12) {
			newMaker(seed).spoil(v)
			if wantMay(s) {
				changed++
				put(t, s)
			} else {
				refused(t, path, s)
			}
			v.Set(cloned(before, false))
		}
	})
	if changed == 0 {
		t.Fatal("no changed one may be")
	}
}

func TestMayLeavesWhatIsHandedIn(t *testing.T) {
	bad := full()
	bad.Funcs[2].Body = []api.Stmt{{Kind: api.StmtReturn}}
	for _, s := range []api.Sig{full(), hollowed(full()), bad, {}} {
		kept(t, "May", s, func(s api.Sig) { sig.May(s) })
		kept(t, "Put", s, func(s api.Sig) { sig.Put(s) })
		kept(t, "Hash", s, func(s api.Sig) { sig.Hash(s) })
	}
}
