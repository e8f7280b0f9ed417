package check_test

import (
	"slices"
	"strings"
	"testing"

	"usufruct/api"
	"usufruct/check"
	"usufruct/fault"
	"usufruct/scope"
)

func TestCrate(t *testing.T) {
	for _, x := range []struct {
		text string
		code api.Errno
		path []int
	}{
		{"", api.OK, nil},
		{"struct S { n: int }", api.OK, nil},
		{"fn f() { }", api.OK, nil},
		{"fn f() { } fn g() { f(); } fn h() { g(); h(); }", api.OK, nil},
		{"fn f(x: int) { x = 1; }", api.ErrMut, []int{0, 15}},
		{"fn f() { } fn g() { u(); }", api.ErrName, []int{11, 20}},
		{"pub fn f() { } pub fn g() { u(); }", api.ErrName, []int{19, 28}},
		{"fn f() { } fn g() { u(); } fn h(x: int) { x = 1; }", api.ErrName, []int{11, 20}},
		{"fn f() { } fn g() { } fn h(x: int) { { x = 1; } u(); }", api.ErrMut, []int{22, 39}},
		{"fn f() { } fn g() -> int { } fn h() { u(); }", api.ErrFlow, []int{11, 11}},
		{"fn f() { return; f(); }", api.ErrFlow, []int{0, 17}},
		{"fn f() -> int { loop { } }", api.OK, nil},
		// What stands behind is there: functions and structs do not hang on their order.
		{"fn f() { g(); let s: S = S { }; } fn g() { } struct S { }", api.OK, nil},
		// A function's names are its own.
		{"fn f(x: int) { let y: int = x; } fn g() { let x: bool = y; }", api.ErrName, []int{33, 42}},
		{"fn f(x: int) { let y: int = x; } fn g(y: bool) { let x: bool = y; }", api.OK, nil},
		// Its lifetimes, too, and its result.
		{"fn f<'a>(x: &'a int) { let y: &'a int = x; } fn g<'b>(x: &'b int) { let y: &'a int = x; }", api.ErrLife, []int{45, 68}},
		{"fn f() -> int { return 1; } fn g() { return 1; }", api.ErrType, []int{28, 37}},
		{"fn f() { return; } fn g() -> bool { return true; } fn h() -> int { return true; }", api.ErrType, []int{51, 67}},
		// A loop around nothing of the next one.
		{"fn f() { loop { break; } } fn g() { break; }", api.ErrFlow, []int{27, 36}},
		{"fn f() { loop { } } fn g() { f(); }", api.OK, nil},
	} {
		c, s := scoped(t, x.text)
		err := check.Crate(s, c)
		if fault.Code(err) != x.code || !slices.Equal(fault.Path(err), x.path) {
			t.Errorf("15.3: %s: error %d at %v, not %d at %v", x.text, fault.Code(err), fault.Path(err), x.code, x.path)
		}
		if err == nil {
			continue
		}
		outer, is := err.(*api.Fault)
		if !is || outer.Code != x.code {
			t.Errorf("15.3: %s: not an error of In: %#v", x.text, err)
			continue
		}
		isError(t, "15.3: within: "+x.text, outer.Err, x.code, x.path[1])
	}
}

func TestExamples(t *testing.T) {
	for text, code := range map[string]api.Errno{
		"fn f() -> int { loop { } }": api.OK,
		"fn f(x: int) { @x = 1; }":   api.ErrMut,
		"fn f() { return; @f(); }":   api.ErrFlow,
	} {
		c, s := scoped(t, strings.Replace(text, mark, "", 1))
		isError(t, "15.2: "+text, check.Func(s, c.Funcs[0]), code, strings.Index(text, mark))
	}
}

// A body hangs on the function that is handed in, not on the one of its name that the scope has.
func TestFuncIsWhatIsHandedIn(t *testing.T) {
	_, s := scoped(t, "fn f(x: int) -> int { return x; }")
	other := parsed(t, "fn f<'z>(mut y: &'z bool) { y = y; let a: &'z bool = y; let b: int = f(1); }").Funcs[0]
	isError(t, "15.2: another header", check.Func(s, other), api.OK, 0)
	other.Body[2].At = 3
	other.Body[2].Value.Args = nil
	isError(t, "15.2: the scope's is called", check.Func(s, other), api.ErrArgs, 3)
}

// Without a scope, and with one that New did not make, there are no structs and no functions.
func TestWithoutScope(t *testing.T) {
	for _, x := range []wrong{
		{"let a: int = x;", api.OK},
		{"let a: bool = x < 1; if a { return; }", api.OK},
		{"@f();", api.ErrName},
		{"@let a: S = S { };", api.ErrName},
		{"@drop p.n;", api.ErrType},
		{"drop p;", api.OK},
		{"@let a: &S = &p;", api.ErrName},
	} {
		text := "fn f(x: int, p: S) { " + x.body + " }"
		at := strings.Index(text, mark)
		f := parsed(t, strings.Replace(text, mark, "", 1)).Funcs[0]
		isError(t, "15.2: "+x.body, check.Func(nil, f), x.code, at)
		isError(t, "15.2: "+x.body, check.Func(&scope.Scope{}, f), x.code, at)
	}
}

// What a Kind does not name asks nothing; what has no type is none where one is asked for.
func TestWhatNoTextMeans(t *testing.T) {
	c, s := scoped(t, within("", ""))
	f := last(c)
	number, back := api.Oper{Kind: api.OperInt}, api.Stmt{Kind: api.StmtReturn}
	use := func(v api.Value) api.Stmt {
		return api.Stmt{Kind: api.StmtSet, Place: api.Place{Name: "y"}, Value: v}
	}
	useAsBool := func(v api.Value) api.Stmt {
		return api.Stmt{Kind: api.StmtSet, Place: api.Place{Name: "l"}, Value: v}
	}
	for _, x := range []struct {
		what string
		stmt api.Stmt
		code api.Errno
	}{
		{"an unknown kind asks nothing", api.Stmt{Kind: 77, Place: api.Place{Name: "u"}, Then: []api.Stmt{back, back}}, api.OK},
		{"an else that the if does not have", api.Stmt{Kind: api.StmtIf, Cond: api.Oper{Kind: api.OperBool}, Else: []api.Stmt{back, back}}, api.OK},
		{"an else of a while", api.Stmt{Kind: api.StmtWhile, Has: true, Cond: api.Oper{Kind: api.OperBool}, Else: []api.Stmt{back, back}}, api.OK},
		{"a bool that is neither", api.Stmt{Kind: api.StmtWhile, Cond: api.Oper{Kind: api.OperBool, N: 9}}, api.OK},
		{"a condition of an unknown kind", api.Stmt{Kind: api.StmtIf, Cond: api.Oper{Kind: 4}}, api.ErrType},
		{"a call of what is no call", api.Stmt{Kind: api.StmtCall, Value: api.Value{Kind: api.ValueOper, A: number}}, api.OK},
		{"a call of what is no call, with an error", api.Stmt{Kind: api.StmtCall, Value: api.Value{Kind: api.ValueNot, A: number}}, api.ErrType},
		{"a call of an unknown kind", api.Stmt{Kind: api.StmtCall}, api.OK},
		{"a value of an unknown kind", use(api.Value{Kind: 8}), api.ErrType},
		{"an operand of an unknown kind", use(api.Value{Kind: api.ValueOper}), api.ErrType},
		{"an unknown operation of numbers", use(api.Value{Kind: api.ValueOp, Op: 9, A: number, B: number}), api.ErrType},
		{"an unknown operation of numbers as a bool", useAsBool(api.Value{Kind: api.ValueOp, Op: 9, A: number, B: number}), api.ErrType},
		{"no operation of numbers", use(api.Value{Kind: api.ValueOp, A: number, B: number}), api.ErrType},
		{"a number out of its range", use(api.Value{Kind: api.ValueOper, A: api.Oper{Kind: api.OperInt, N: -1}}), api.OK},
		{"a let of none", api.Stmt{Kind: api.StmtLet, Name: "a", Mut: true}, api.ErrType},
		{"a let of an unknown kind", api.Stmt{Kind: api.StmtLet, Name: "a", Mut: true, Type: api.Type{Kind: 9}}, api.ErrType},
		{"a let of a reference to nothing", api.Stmt{Kind: api.StmtLet, Name: "a", Mut: true, Type: api.Type{Kind: api.KindRef}}, api.ErrType},
		{"a let of no name", api.Stmt{Kind: api.StmtLet, Mut: true, Type: api.Type{Kind: api.KindInt}}, api.OK},
		{"a path of no name", api.Stmt{Kind: api.StmtDrop, Place: api.Place{Name: "p", Path: []string{""}}}, api.ErrName},
		{"fewer args than names", use(api.Value{Kind: api.ValueMake, Name: "P", Names: []string{"n", "b"}, Args: []api.Oper{number}}), api.ErrArgs},
		{"more args than names", use(api.Value{Kind: api.ValueMake, Name: "P", Names: []string{"n", "b"}, Args: []api.Oper{number, number, number}}), api.ErrArgs},
		{"args without names", use(api.Value{Kind: api.ValueMake, Name: "P", Args: []api.Oper{number, number}}), api.ErrArgs},
	} {
		x.stmt.At = -5
		f.Body = []api.Stmt{x.stmt}
		isError(t, "15.2: "+x.what, check.Func(s, f), x.code, -5)
	}
}

// A header that the scope would not take is gone by as it is.
func TestHeadersThatScopeDoesNotTake(t *testing.T) {
	_, s := scoped(t, ownText)
	f := api.Func{At: 9, Params: []api.Field{
		{Name: "u", Mut: true},
		{Name: "x", Type: api.Type{Kind: api.KindRef}},
		{Name: "y", Type: api.Type{Kind: 99, Name: "y"}},
		{Name: "z", Type: named("Z", "q"), Mut: true},
		{Name: "z", Type: number()},
	}}
	for body, code := range map[string]api.Errno{
		"@drop x.*;":     api.ErrType,
		"@drop x;":       api.ErrType,
		"drop y;":        api.OK,
		"@drop y.*;":     api.ErrType,
		"@drop z.n;":     api.ErrType,
		"drop z;":        api.OK,
		"z = z;":         api.OK,
		"@let z: P = z;": api.ErrTwice,
		"@y = y;":        api.ErrMut,
		"u = u;":         api.OK,
		"@u = none();":   api.ErrType,
		"@u = y;":        api.ErrType,
	} {
		f.Body = bodyOf(t, strings.Replace(body, mark, "", 1))
		f.Body[0].At = 4
		isError(t, "15.2: "+body, check.Func(s, f), code, 4)
	}
	f.Body, f.Result = nil, api.Type{Kind: 99}
	isError(t, "15.2: the end of an unknown result", check.Func(s, f), api.ErrFlow, 9)
}

// A sig may have a struct and a function of one name.
func TestStructsAndFunctionsOfOneName(t *testing.T) {
	one := api.Sig{Name: "o",
		Structs: []api.Struct{{Pub: true, Name: "X", Fields: []api.Field{{Name: "n", Type: number()}}}},
		Funcs:   []api.Func{{Pub: true, Name: "X", Params: []api.Field{{Name: "b", Type: truth()}}, Result: truth()}},
	}
	c := parsed(t, "fn f() { let a: bool = o::X(true); let b: o::X = o::X { n: 1 }; o::X(a); }")
	s, err := scope.New("k", []api.Sig{one}, c)
	if err != nil {
		t.Fatal(err)
	}
	isError(t, "15.2", check.Func(s, c.Funcs[0]), api.OK, 0)
	slices.Reverse(c.Funcs[0].Body[:2])
	isError(t, "15.2: the struct first", check.Func(s, c.Funcs[0]), api.OK, 0)
}

func TestPlacesInTheWholeRange(t *testing.T) {
	const least, most = -1 << 63, 1<<63 - 1
	_, s := scoped(t, "")
	for _, at := range []int{least, -1, 0, most} {
		f := api.Func{At: most - at, Body: []api.Stmt{{Kind: api.StmtBreak, At: at}}}
		isError(t, "15.2", check.Func(s, f), api.ErrFlow, at)
		if err := check.Crate(s, api.Crate{Funcs: []api.Func{f}}); !slices.Equal(fault.Path(err), []int{most - at, at}) {
			t.Errorf("15.3: at %v, not %v", fault.Path(err), []int{most - at, at})
		}
	}
}
