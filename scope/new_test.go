package scope_test

import (
	"fmt"
	"math"
	"strings"
	"testing"

	"usufruct/api"
	"usufruct/scope"
	"usufruct/sig"
)

// 13.4

// told asks New of a text, and holds it against the other way of telling it as well.
func told(t *testing.T, text string, code api.Errno, at int) {
	t.Helper()
	c := parsed(t, text)
	made(t, "k", deps(t), c)
	_, err := scope.New("k", deps(t), c)
	isError(t, "13.4: "+text, err, code, at)
}

// toldBehind asks it of an item behind others: its place is its word's.
func toldBehind(t *testing.T, ahead, item string, code api.Errno) {
	t.Helper()
	at := len(ahead)
	if strings.HasPrefix(item, "pub ") {
		at += len("pub ")
	}
	if code == api.OK {
		at = 0
	}
	told(t, ahead+item, code, at)
}

func TestNewOfStructs(t *testing.T) {
	for text, code := range map[string]api.Errno{
		"struct S { }":                                   api.OK,
		"pub struct S { f: int, g: bool }":               api.OK,
		"struct S<'a, 'b> { f: &'a int, g: &'b mut S1 }": api.ErrName,

		// two of one name
		"struct S<'a, 'a> { }":                 api.ErrTwice,
		"struct S<'a, 'b, 'c, 'b> { }":         api.ErrTwice,
		"struct S<'a, 'b> { }":                 api.OK,
		"struct S { f: int, f: int }":          api.ErrTwice,
		"struct S { f: int, g: int, f: bool }": api.ErrTwice,
		"struct S<'a> { a: int, S: int }":      api.OK,
		"struct S { d: int, k: int }":          api.OK,

		// Type's code
		"struct S { f: &int }":                  api.ErrLife,
		"struct S<'a> { f: &mut int }":          api.ErrLife,
		"struct S<'a> { f: &'b int }":           api.ErrLife,
		"struct S<'a> { f: &'a &int }":          api.ErrLife,
		"struct S { f: U }":                     api.ErrName,
		"struct S<'a> { f: &'a U }":             api.ErrName,
		"struct S { f: d::Q }":                  api.ErrName,
		"struct S { f: k::S }":                  api.ErrName,
		"struct S { f: z::S }":                  api.ErrName,
		"struct S { f: d::P }":                  api.OK,
		"struct S { f: d::T }":                  api.ErrArgs,
		"struct S<'a> { f: d::T<'a, 'a> }":      api.ErrArgs,
		"struct S<'a> { f: d::P<'a> }":          api.ErrArgs,
		"struct S<'a> { f: d::T<'b> }":          api.ErrLife,
		"struct S<'a> { f: d::T<'x> }":          api.ErrLife,
		"struct S<'a> { f: d::T<'a>, g: e::E }": api.OK,

		// one that it is itself
		"struct S { f: S }":                     api.ErrName,
		"struct S<'a> { f: &'a S }":             api.ErrName,
		"struct S<'a> { f: &'a mut &'a S<'a> }": api.ErrName,

		// not well
		"struct S<'a, 'b> { f: &'a &'b int }":             api.ErrLife,
		"struct S<'a, 'b> { f: &'b mut &'a mut int }":     api.ErrLife,
		"struct S<'a, 'b> { f: &'a &'a &'b int }":         api.ErrLife,
		"struct S<'a, 'b> { f: &'a d::T<'b> }":            api.ErrLife,
		"struct S<'a, 'b> { f: &'a d::W<'a, 'b> }":        api.ErrLife,
		"struct S<'a, 'b> { f: &'b d::W<'a, 'b> }":        api.ErrLife,
		"struct S<'a, 'b> { f: &'a &'a d::W<'a, 'b> }":    api.ErrLife,
		"struct S<'a> { f: &'a &'a mut &'a int }":         api.OK,
		"struct S<'a> { f: &'a mut d::W<'a, 'a> }":        api.OK,
		"struct S<'a, 'b> { f: d::W<'a, 'b> }":            api.OK,
		"struct S<'a, 'b> { f: &'a &'a int, g: &'b int }": api.OK,

		// what is not shown
		"pub struct S { f: d::P }":                     api.ErrName,
		"pub struct S<'a> { f: &'a mut &'a d::T<'a> }": api.ErrName,
		"pub struct S<'a> { f: &'a int, g: bool }":     api.OK,
	} {
		toldBehind(t, "", text, code)
		toldBehind(t, "fn a() { }\n", text, code)
	}
}

func TestNewOfFunctions(t *testing.T) {
	const ahead = "struct P { } pub struct O<'a> { f: &'a int } "
	for text, code := range map[string]api.Errno{
		"fn f() { }": api.OK,
		"pub fn f(mut x: int, y: bool) -> int { }": api.OK,

		// two of one name
		"fn P() { }":                            api.ErrTwice,
		"pub fn O() { }":                        api.ErrTwice,
		"fn T() { }":                            api.OK,
		"fn k(d: int, k: int, P: int) { }":      api.OK,
		"fn d() { }":                            api.OK,
		"fn f<'a, 'a>() { }":                    api.ErrTwice,
		"fn f<'a, 'b: 'a, 'a: 'b>() { }":        api.ErrTwice,
		"fn f<'f, 'P>() { }":                    api.OK,
		"fn f(x: int, x: int) { }":              api.ErrTwice,
		"fn f(mut x: int, y: int, x: bool) { }": api.ErrTwice,
		"fn f(f: int) { let f: int = 1; }":      api.OK,

		// lifetimes
		"fn f<'a: 'b>() { }":                   api.ErrLife,
		"fn f<'a: 'a>() { }":                   api.OK,
		"fn f<'a: 'b, 'b>() { }":               api.OK,
		"fn f<'a: 'b + 'c, 'b>() { }":          api.ErrLife,
		"fn f<'a: 'b, 'b: 'c, 'c: 'a>() { }":   api.OK,
		"fn f<'a: 'b + 'b, 'b: 'a + 'b>() { }": api.OK,

		// Type's code, of parameters
		"fn f(x: &int) { }":                         api.ErrLife,
		"fn f<'a>(x: &'b int) { }":                  api.ErrLife,
		"fn f<'a>(x: &'a mut &bool) { }":            api.ErrLife,
		"fn f(x: U) { }":                            api.ErrName,
		"fn f(x: d::Q) { }":                         api.ErrName,
		"fn f(x: k::P) { }":                         api.ErrName,
		"fn f(x: O) { }":                            api.ErrArgs,
		"fn f<'a>(x: P<'a>) { }":                    api.ErrArgs,
		"fn f<'a>(x: O<'b>) { }":                    api.ErrLife,
		"fn f<'a>(x: O<'a>, y: P, z: d::T<'a>) { }": api.OK,

		// and of the Result
		"fn f() -> &int { }":                api.ErrLife,
		"fn f() -> &'a mut int { }":         api.ErrLife,
		"fn f() -> U { }":                   api.ErrName,
		"fn f() -> d::T { }":                api.ErrArgs,
		"fn f<'a>() -> d::T<'b> { }":        api.ErrLife,
		"fn f<'a>(x: int) -> O<'a, 'a> { }": api.ErrArgs,
		"fn f<'a>() -> &'a d::T<'a> { }":    api.OK,
		"fn f() -> P { }":                   api.OK,

		// not well
		"fn f<'a, 'b>(x: &'a &'b int) { }":                                          api.ErrLife,
		"fn f<'a: 'b, 'b>(x: &'a &'b int) { }":                                      api.ErrLife,
		"fn f<'a, 'b: 'a>(x: &'a &'b int) { }":                                      api.OK,
		"fn f<'a: 'b, 'b: 'a>(x: &'a &'b int) { }":                                  api.OK,
		"fn f<'a, 'b>() -> &'a mut &'b int { }":                                     api.ErrLife,
		"fn f<'a, 'b: 'a>() -> &'a mut &'b int { }":                                 api.OK,
		"fn f<'a, 'b>(x: &'a O<'b>) { }":                                            api.ErrLife,
		"fn f<'a, 'b: 'a>(x: &'a O<'b>) { }":                                        api.OK,
		"fn f<'a, 'b: 'a>(x: &'b d::W<'b, 'a>) { }":                                 api.ErrLife,
		"fn f<'a, 'b: 'a>(x: &'a d::W<'b, 'a>) { }":                                 api.OK,
		"fn f<'a, 'b>(x: &'b d::W<'a, 'b>) { }":                                     api.ErrLife,
		"fn f<'a, 'b: 'a, 'c: 'b>(x: &'a &'b &'c int) { }":                          api.OK,
		"fn f<'a, 'b: 'a, 'c: 'a>(x: &'a &'b &'c int) { }":                          api.ErrLife,
		"fn f<'a, 'b: 'a, 'c: 'b>(x: &'a &'c int) { }":                              api.OK,
		"fn f<'a, 'b: 'a, 'c: 'b>(x: &'c &'a int) { }":                              api.ErrLife,
		"fn f<'a: 'b, 'b: 'c, 'c: 'a>(x: &'c &'b &'a &'c O<'b>) -> &'b &'a int { }": api.OK,

		// what is not shown
		"pub fn f(x: P) { }":                                api.ErrName,
		"pub fn f<'a>(x: &'a &'a mut P) { }":                api.ErrName,
		"pub fn f(x: d::P) { }":                             api.ErrName,
		"pub fn f<'a>(x: &'a d::T<'a>) { }":                 api.ErrName,
		"pub fn f() -> P { }":                               api.ErrName,
		"pub fn f<'a>() -> &'a P { }":                       api.ErrName,
		"pub fn f() -> d::P { }":                            api.ErrName,
		"pub fn f<'a>(x: &'a O<'a>, y: O<'a>) -> O<'a> { }": api.OK,
		"fn f<'a>(x: &'a P, y: d::P) -> d::T<'a> { }":       api.OK,
	} {
		toldBehind(t, ahead, text, code)
	}
}

// In an item that is wrong in two ways, the one is told that the chapter names first.
func TestNewOfTwoFaults(t *testing.T) {
	const ahead = "struct P { } struct S { } fn g() { } "
	for text, code := range map[string]api.Errno{
		"struct S<'a, 'a> { f: U }":                 api.ErrTwice,
		"struct S { f: &int }":                      api.ErrTwice,
		"struct X<'a, 'a> { f: U }":                 api.ErrTwice,
		"struct X { f: U, f: U }":                   api.ErrName,
		"struct X { f: int, f: U }":                 api.ErrTwice,
		"struct X { f: &int, f: U }":                api.ErrLife,
		"struct X { f: S<'a>, g: &int }":            api.ErrArgs,
		"struct X<'a, 'b> { f: &'a &'b int, g: U }": api.ErrLife,
		"struct X<'a, 'b> { f: &'a &'b U }":         api.ErrName,
		"struct X<'a, 'b> { f: &'a &'b S<'a> }":     api.ErrArgs,
		"pub struct X<'a, 'b> { f: &'a &'b P }":     api.ErrLife,
		"pub struct X<'a> { f: &'a P, g: &int }":    api.ErrName,
		"pub struct X<'a> { f: P, f: int }":         api.ErrName,
		"pub struct X<'a> { f: int, g: int, f: P }": api.ErrTwice,
		"pub struct X { f: d::T }":                  api.ErrArgs,
		"pub struct X { f: d::P<'a> }":              api.ErrArgs,
		"pub struct X { f: d::T<'a> }":              api.ErrLife,

		"fn g<'a: 'b>() { }":                    api.ErrTwice,
		"fn S(x: &int) { }":                     api.ErrTwice,
		"fn f<'a: 'b, 'a>() { }":                api.ErrLife,
		"fn f<'a, 'a: 'b>() { }":                api.ErrTwice,
		"fn f<'a: 'b>(x: U) { }":                api.ErrLife,
		"fn f<'a, 'a>(x: U) { }":                api.ErrTwice,
		"fn f<'a: 'b>(x: int, x: int) { }":      api.ErrLife,
		"fn f(x: U, x: int) { }":                api.ErrName,
		"fn f(x: int, x: U) { }":                api.ErrTwice,
		"fn f(x: S<'a>, y: U) -> &int { }":      api.ErrArgs,
		"fn f(x: &int, x: U) -> U { }":          api.ErrLife,
		"fn f(x: int, x: int) -> U { }":         api.ErrTwice,
		"fn f(x: U) -> &int { }":                api.ErrName,
		"fn f<'a, 'b>(x: &'a &'b U) { }":        api.ErrName,
		"fn f<'a, 'b>(x: &'a &'b int) -> U { }": api.ErrLife,
		"fn f<'a, 'b>() -> &'a &'b U { }":       api.ErrName,
		"pub fn f<'a, 'b>(x: &'a &'b P) { }":    api.ErrLife,
		"pub fn f(x: P, y: &int) { }":           api.ErrName,
		"pub fn f(x: P) -> &int { }":            api.ErrName,
		"pub fn f(x: P<'a>) { }":                api.ErrArgs,
		"pub fn f<'a, 'b>() -> &'a &'b P { }":   api.ErrLife,
		"pub fn f() -> d::T { }":                api.ErrArgs,
	} {
		toldBehind(t, ahead, text, code)
	}
}

func TestNewOfSeveralItems(t *testing.T) {
	for _, x := range []struct {
		text string
		code api.Errno
		at   int
	}{
		{"struct S { } struct S { }", api.ErrTwice, 13},
		{"struct S { } pub struct T { } struct S { }", api.ErrTwice, 30},
		{"fn f() { } fn f() { }", api.ErrTwice, 11},
		{"fn f() { } pub fn f() { }", api.ErrTwice, 15},
		{"fn f(x: int) { } fn g() { } fn f() { }", api.ErrTwice, 28},

		// all structs ahead of all functions, wherever they stand
		{"fn f(x: U) { } struct S { f: &int }", api.ErrLife, 15},
		{"fn f(x: U) { } struct S { }", api.ErrName, 0},
		{"fn f() { } fn f() { } struct S { f: U }", api.ErrName, 22},
		{"fn S() { } struct S { }", api.ErrTwice, 0},
		{"fn f(x: S) -> S { } struct S { }", api.OK, 0},
		{"pub fn f(x: S) { } pub struct S { }", api.OK, 0},
		{"pub fn f(x: S) { } struct S { }", api.ErrName, 4},

		// the first of several
		{"struct S { f: &int } struct S { f: U }", api.ErrLife, 0},
		{"struct S { } struct T { f: U } struct S { }", api.ErrName, 13},
		{"fn f(x: &int) { } fn f(x: U) { }", api.ErrLife, 0},
		{"fn f() { } fn g() -> U { } fn f() { }", api.ErrName, 11},

		// structs below
		{"struct S { f: T } struct T { }", api.ErrName, 0},
		{"struct T { } struct S { f: T }", api.OK, 0},
		{"struct S<'a> { f: &'a T<'a> } struct T<'a> { f: &'a S<'a> }", api.ErrName, 0},
		{"struct A { } struct B { a: A } struct C { a: A, b: B } struct D { c: C, d: D }", api.ErrName, 55},
		{"struct A<'a> { f: &'a int } struct B<'a> { f: A<'a>, g: &'a A<'a> } struct C<'a, 'b> { f: B<'a>, g: A<'b> }", api.OK, 0},
		{"struct A<'a> { f: &'a int } struct B<'b> { f: A<'a> }", api.ErrLife, 28},
		{"struct A<'a> { f: &'a int } struct B { f: A }", api.ErrArgs, 28},

		// what is not shown
		{"struct P { } pub struct S { f: P }", api.ErrName, 17},
		{"struct P { } pub struct S<'a> { f: &'a mut &'a P }", api.ErrName, 17},
		{"pub struct P { } pub struct S<'a> { f: &'a mut &'a P }", api.OK, 0},
		{"pub struct P { } struct S { f: P } pub struct T { f: P }", api.OK, 0},
		{"pub struct P { } struct S { f: P } pub struct T { f: S }", api.ErrName, 39},
		{"struct P { } fn f() -> P { } pub fn g() -> P { }", api.ErrName, 33},

		// names of dependencies do not take the crate's own
		{"struct P { } struct T { p: P, q: d::P } fn g() { } fn h(x: T) { }", api.OK, 0},
		{"fn E() { } fn d() { } struct e { }", api.OK, 0},
	} {
		told(t, x.text, x.code, x.at)
	}
}

func TestNewTellsAnyPlace(t *testing.T) {
	for _, at := range []int{0, 1, -1, 7, math.MaxInt, math.MinInt} {
		wrong := api.Struct{Name: "S", Fields: []api.Field{{Name: "f", Type: named("U")}}, At: at}
		_, err := scope.New("k", nil, api.Crate{Structs: []api.Struct{{Name: "A", At: 3}, wrong}})
		isError(t, "13.4: a struct", err, api.ErrName, at)
		_, err = scope.New("k", nil, api.Crate{Funcs: []api.Func{{Name: "f", At: 3}, {Name: "f", At: at}}})
		isError(t, "13.4: a function", err, api.ErrTwice, at)
	}
}

func TestNewOfNames(t *testing.T) {
	right := api.Crate{Structs: []api.Struct{{Name: "k"}}}
	for _, name := range []string{"k", "_", "K9", "Int", strings.Repeat("x", api.MaxName)} {
		if s := made(t, name, nil, right); s == nil {
			t.Errorf("13.4: the name %q", name)
		}
		if s := made(t, "other", []api.Sig{{Name: name}}, right); s == nil {
			t.Errorf("13.4: the dependency %q", name)
		}
	}
	bad := []string{"", "1", "1k", "k-", "a::b", "d::", "k ", " k", "k\n", "'a", "*", "é", "\x00", "\xFF", strings.Repeat("x", api.MaxName+1)}
	for _, name := range append(bad, words...) {
		_, err := scope.New(name, nil, right)
		isError(t, "13.4: the name "+name, err, api.ErrArg, 0)
		_, err = scope.New("k", []api.Sig{{Name: name}}, right)
		isError(t, "13.4: a dependency "+name, err, api.ErrArg, 0)
		_, err = scope.New("k", []api.Sig{{Name: "d"}, {Name: name}}, right)
		isError(t, "13.4: a dependency "+name, err, api.ErrArg, 0)
	}
}

func TestNewOfDependencies(t *testing.T) {
	d, e, f := api.Sig{Name: "d"}, api.Sig{Name: "e"}, api.Sig{Name: "f"}
	other := sig.Of("d", parsed(t, "pub fn f() { }"))
	for _, l := range [][]api.Sig{nil, {}, {d}, {d, e}, {f, e, d}, {other, e}} {
		if s := made(t, "k", l, api.Crate{}); s == nil {
			t.Errorf("13.4: %v", l)
		}
	}
	private := sig.Of("d", parsed(t, "pub struct S { } pub fn f() { }"))
	private.Structs[0].Pub = false
	placed := sig.Of("d", parsed(t, "pub struct S { } pub fn f() { }"))
	placed.Funcs[0].At = 1
	bodied := sig.Of("d", parsed(t, "pub struct S { } pub fn f() { }"))
	bodied.Funcs[0].Body = []api.Stmt{{Kind: api.StmtReturn}}
	twoElems := api.Sig{Name: "d", Funcs: []api.Func{{Pub: true, Name: "f", Result: api.Type{Kind: api.KindRef, Elem: []api.Type{number(), number()}}}}}
	noElem := api.Sig{Name: "d", Structs: []api.Struct{{Pub: true, Name: "S", Fields: []api.Field{{Name: "f", Type: api.Type{Kind: api.KindMut}}}}}}
	many := api.Sig{Name: "d", Funcs: times(api.MaxItems+1, func(i int) api.Func { return api.Func{Pub: true, Name: fmt.Sprint("f", i)} })}
	for _, l := range [][]api.Sig{
		{d, d}, {d, other}, {d, e, d}, {e, d, d}, {f, e, d, f},
		{{Name: "k"}}, {d, {Name: "k"}}, {{Name: "k"}, d},
		{private}, {e, placed}, {bodied, e}, {twoElems}, {noElem}, {many}, {{}},
	} {
		for _, c := range []api.Crate{{}, parsed(t, "struct S { f: U }")} {
			made(t, "k", l, c)
			_, err := scope.New("k", l, c)
			isError(t, "13.4: "+short(l), err, api.ErrArg, 0)
		}
	}
	// A dependency's items need not be right: which sigs may be is all that is asked.
	odd := api.Sig{Name: "d", Structs: []api.Struct{{Pub: true, Name: "S", Lives: []string{"a", "a"}, Fields: []api.Field{{Name: "f", Type: ref(named("U"))}, {Name: "f", Type: ref(number(), "z")}}}},
		Funcs: []api.Func{{Pub: true, Name: "S", Lives: []api.Life{life("a", "z")}, Result: ref(named("k::U"))}}}
	c := api.Crate{Funcs: []api.Func{{Name: "f", Lives: []api.Life{life("a")}, Params: []api.Field{{Name: "x", Type: named("d::S", "a", "a")}}}}}
	if s := made(t, "k", []api.Sig{odd}, c); s != nil {
		asked(t, s, want{deps: []api.Sig{odd}, c: c}, []string{"d::S", "f", "S", "d::U", "k::U"})
	}
}

func TestNewOfCratesThatMayNotBe(t *testing.T) {
	stmts := func(l ...api.Stmt) api.Crate { return api.Crate{Funcs: []api.Func{{Name: "f", Body: l}}} }
	param := func(x api.Type) api.Crate {
		return api.Crate{Funcs: []api.Func{{Name: "f", At: 9, Lives: []api.Life{life("a")}, Params: []api.Field{{Name: "x", Type: x}}}}}
	}
	wrong := parsed(t, "struct S { f: U }").Structs[0]
	for _, c := range []api.Crate{
		{Structs: []api.Struct{{}}},
		{Structs: []api.Struct{wrong, {Name: "fn"}}},
		{Structs: []api.Struct{{Name: "d::S", At: 5}}},
		{Structs: []api.Struct{{Name: "S", Lives: []string{"1"}}}},
		{Structs: []api.Struct{{Name: "S", Fields: []api.Field{{Mut: true, Name: "f", Type: number()}}}}},
		{Structs: []api.Struct{{Name: "S", Fields: []api.Field{{Name: "f"}}}}},
		{Funcs: []api.Func{{Name: "1"}}},
		{Structs: []api.Struct{wrong}, Funcs: []api.Func{{}}},
		{Funcs: times(api.MaxItems+1, func(i int) api.Func { return api.Func{Name: fmt.Sprint("f", i)} })},
		param(api.Type{}),
		param(api.Type{Kind: 6}),
		param(api.Type{Kind: api.KindRef, Lives: []string{"a"}}),
		param(ref(number(), "a", "a")),
		param(named("")),
		param(named("d::d::T")),
		stmts(api.Stmt{}),
		stmts(api.Stmt{Kind: api.StmtCall, Value: api.Value{Kind: api.ValueOper}}),
		stmts(api.Stmt{Kind: api.StmtLet, Name: "x"}),
	} {
		made(t, "k", nil, c)
		s, err := scope.New("k", deps(t), c)
		isError(t, "13.4: "+short(c), err, api.ErrArg, 0)
		if s != nil {
			t.Errorf("13.4: a scope of %s", short(c))
		}
	}
}

// What bodies say is not asked here.
func TestNewAsksForNoBodies(t *testing.T) {
	const text = "fn f() -> int { let x: &U = &y; let x: &'z V<'q>; g(x, x); return S { }; x.f = 1; break; }"
	c := parsed(t, text)
	s := made(t, "k", nil, c)
	if f, is := s.Func("f"); !is || !alike(f, c.Funcs[0]) {
		t.Fatalf("13.1: %t, %s", is, short(f))
	}
}

func TestNewOfTheMost(t *testing.T) {
	lives := times(api.MaxParts, func(i int) string { return fmt.Sprint("l", i) })
	fields := func() []api.Field {
		return times(api.MaxParts, func(i int) api.Field { return api.Field{Name: fmt.Sprint("f", i), Type: named("S0", lives...)} })
	}
	c := api.Crate{Structs: []api.Struct{{Name: "S0", Lives: lives}}}
	ring := times(api.MaxParts, func(i int) api.Life { return life(lives[i], lives[(i+1)%api.MaxParts]) })
	for i := 1; i < api.MaxItems/2; i++ {
		c.Structs = append(c.Structs, api.Struct{Name: fmt.Sprint("S", i), Lives: lives, Fields: fields(), At: i})
	}
	for i := range api.MaxItems / 2 {
		f := api.Func{Name: fmt.Sprint("f", i), Lives: ring, Params: fields(), Result: named("S1", lives...), At: 1000 + i}
		for k := range f.Params {
			f.Params[k].Type = ref(f.Params[k].Type, lives[k])
		}
		c.Funcs = append(c.Funcs, f)
	}
	if _, err := scope.New("k", nil, c); err != nil {
		t.Fatalf("13.4: %v", err)
	}
	last := &c.Funcs[len(c.Funcs)-1]
	last.Lives[5].Over = nil
	_, err := scope.New("k", nil, c)
	isError(t, "13.4: a ring that is cut", err, api.ErrLife, 1000)
	deep := number()
	for range api.MaxDepth - 1 {
		deep = mutRef(deep, "a")
	}
	for _, x := range []struct {
		t    api.Type
		code api.Errno
	}{{deep, api.OK}, {ref(deep, "a"), api.ErrArg}} {
		_, err := scope.New("k", nil, api.Crate{Structs: []api.Struct{{Name: "S", Lives: []string{"a"}, Fields: []api.Field{{Name: "f", Type: x.t}}}}})
		isError(t, "13.4: a deep type", err, x.code, 0)
	}
}
