package print_test

import (
	"math"
	"reflect"
	"strings"
	"testing"
	"unsafe"

	"usufruct/api"
	"usufruct/fault"
	"usufruct/parse"
	"usufruct/print"
	"usufruct/tree"
)

// deepest is how many parts within one another the document speaks of.
const deepest = 1 << 16

// 9.1

func TestNoItems(t *testing.T) {
	prints(t, api.Crate{}, "")
	prints(t, api.Crate{Structs: []api.Struct{}, Funcs: []api.Func{}}, "")
}

func TestFull(t *testing.T) { prints(t, full(), fullText()) }

func TestStructs(t *testing.T) {
	f := api.Field{Name: "f", Type: number()}
	g := api.Field{Name: "g", Type: ref(api.KindMut, named("T", "b"), "a")}
	for want, s := range map[string]api.Struct{
		"struct S { }":                                      {Name: "S"},
		"pub struct S { }":                                  {Pub: true, Name: "S"},
		"struct S<'a> { }":                                  {Name: "S", Lives: []string{"a"}},
		"pub struct S<'a, 'mut, 'b> { }":                    {Pub: true, Name: "S", Lives: []string{"a", "mut", "b"}},
		"struct S { f: int }":                               {Name: "S", Fields: []api.Field{f}},
		"struct S { f: int, g: &'a mut T<'b> }":             {Name: "S", Fields: []api.Field{f, g}},
		"pub struct S<'a, 'b> { g: &'a mut T<'b>, f: int }": {Pub: true, Name: "S", Lives: []string{"a", "b"}, Fields: []api.Field{g, f}},
	} {
		prints(t, api.Crate{Structs: []api.Struct{s}}, want+"\n")
	}
}

// heads are functions without bodies, of which each may be, by their texts.
func heads() map[string]api.Func {
	x := api.Field{Name: "x", Type: number()}
	y := api.Field{Mut: true, Name: "y", Type: ref(api.KindRef, truth(), "a")}
	a := api.Life{Name: "a"}
	b := api.Life{Name: "b", Over: []string{"a"}}
	c := api.Life{Name: "fn", Over: []string{"a", "b", "int"}}
	return map[string]api.Func{
		"fn f()":         {Name: "f"},
		"pub fn f()":     {Pub: true, Name: "f"},
		"fn f<'a>()":     {Name: "f", Lives: []api.Life{a}},
		"fn f<'b: 'a>()": {Name: "f", Lives: []api.Life{b}},
		"fn f<'fn: 'a + 'b + 'int, 'a, 'b: 'a>()": {Name: "f", Lives: []api.Life{c, a, b}},
		"fn f(x: int)":                               {Name: "f", Params: []api.Field{x}},
		"fn f(mut y: &'a bool)":                      {Name: "f", Params: []api.Field{y}},
		"fn f(x: int, mut y: &'a bool, x: int)":      {Name: "f", Params: []api.Field{x, y, x}},
		"fn f() -> int":                              {Name: "f", Result: number()},
		"fn f() -> &mut d::S<'a>":                    {Name: "f", Result: ref(api.KindMut, named("d::S", "a"))},
		"pub fn f<'a, 'b: 'a>(mut y: &'a bool) -> S": {Pub: true, Name: "f", Lives: []api.Life{a, b}, Params: []api.Field{y}, Result: named("S")},
	}
}

func TestFuncs(t *testing.T) {
	for head, f := range heads() {
		prints(t, api.Crate{Funcs: []api.Func{f}}, head+" {\n}\n")
		f.Body = []api.Stmt{drop("x"), drop("y")}
		prints(t, api.Crate{Funcs: []api.Func{f}}, head+" {\n\tdrop x;\n\tdrop y;\n}\n")
	}
}

// Structs come ahead of functions wherever they stood; among themselves both keep their order.
func TestItemsInOrder(t *testing.T) {
	c := api.Crate{
		Structs: []api.Struct{{Name: "Z", At: 50}, {Name: "A", At: 40}, {Name: "M", At: 90}},
		Funcs:   []api.Func{{Name: "z", At: 10}, {Name: "a", At: 5}, {Name: "m", At: 70}},
	}
	want := "struct Z { }\nstruct A { }\nstruct M { }\nfn z() {\n}\nfn a() {\n}\nfn m() {\n}\n"
	prints(t, c, want)
	parsed, err := parse.Crate("fn z() {} struct Z {} struct A {} fn a() {} fn m() {} struct M {}")
	if err != nil {
		t.Fatal(err)
	}
	prints(t, parsed, want)
}

// stmtTexts are statements by their texts, as these stand behind one tab.
func stmtTexts() map[string]api.Stmt {
	one := api.Value{Kind: api.ValueOper, A: operInt(1)}
	less := api.Value{Kind: api.ValueOp, Op: api.OpLess, A: operPlace("x"), B: operInt(1)}
	end := []api.Stmt{{Kind: api.StmtBreak}}
	next := []api.Stmt{{Kind: api.StmtContinue}}
	return map[string]api.Stmt{
		"let x: int;":               {Kind: api.StmtLet, Name: "x", Type: number()},
		"let mut x: int;":           {Kind: api.StmtLet, Mut: true, Name: "x", Type: number()},
		"let x: &S<'a> = 1;":        {Kind: api.StmtLet, Name: "x", Type: ref(api.KindRef, named("S", "a")), Has: true, Value: one},
		"let mut x: bool = x < 1;":  {Kind: api.StmtLet, Mut: true, Name: "x", Type: truth(), Has: true, Value: less},
		"x = 1;":                    {Kind: api.StmtSet, Place: place("x"), Value: one},
		"x.f.* = x < 1;":            {Kind: api.StmtSet, Place: place("x", "f", "*"), Value: less},
		"x = g();":                  {Kind: api.StmtSet, Place: place("x"), Value: call("g")},
		"g();":                      {Kind: api.StmtCall, Value: call("g")},
		"d::g(1, x.*, true);":       {Kind: api.StmtCall, Value: call("d::g", operInt(1), operPlace("x", "*"), operBool(1))},
		"if x {\n\t}":               {Kind: api.StmtIf, Cond: operPlace("x")},
		"if x.* {\n\t\tbreak;\n\t}": {Kind: api.StmtIf, Cond: operPlace("x", "*"), Then: end},
		"if 1 {\n\t} else {\n\t}":   {Kind: api.StmtIf, Cond: operInt(1), Has: true},
		"if x {\n\t\tbreak;\n\t} else {\n\t\tcontinue;\n\t}": {Kind: api.StmtIf, Cond: operPlace("x"), Then: end, Has: true, Else: next},
		"if x {\n\t} else {\n\t\tcontinue;\n\t}":             {Kind: api.StmtIf, Cond: operPlace("x"), Has: true, Else: next},
		"if x {\n\t\tbreak;\n\t} else {\n\t}":                {Kind: api.StmtIf, Cond: operPlace("x"), Then: end, Has: true},
		"while false {\n\t}":                                 {Kind: api.StmtWhile, Cond: operBool(0)},
		"while x {\n\t\tbreak;\n\t}":                         {Kind: api.StmtWhile, Cond: operPlace("x"), Then: end},
		"loop {\n\t}":                                        {Kind: api.StmtLoop},
		"loop {\n\t\tcontinue;\n\t}":                         {Kind: api.StmtLoop, Then: next},
		"{\n\t}":                                             block(),
		"{\n\t\tbreak;\n\t\tcontinue;\n\t}":                  block(end[0], next[0]),
		"break;":                                             {Kind: api.StmtBreak},
		"continue;":                                          {Kind: api.StmtContinue},
		"return;":                                            {Kind: api.StmtReturn},
		"return 1;":                                          {Kind: api.StmtReturn, Has: true, Value: one},
		"return x < 1;":                                      {Kind: api.StmtReturn, Has: true, Value: less},
		"drop x;":                                            {Kind: api.StmtDrop, Place: place("x")},
		"drop x.*.f;":                                        {Kind: api.StmtDrop, Place: place("x", "*", "f")},
	}
}

func TestStmts(t *testing.T) {
	for want, s := range stmtTexts() {
		prints(t, inBody(s), "fn f() {\n\t"+want+"\n}\n")
		prints(t, inBody(s, s), "fn f() {\n\t"+want+"\n\t"+want+"\n}\n")
		deeper := strings.ReplaceAll(want, "\n", "\n\t")
		prints(t, inBody(block(s)), "fn f() {\n\t{\n\t\t"+deeper+"\n\t}\n}\n")
	}
}

func valueTexts() map[string]api.Value {
	x, p := operPlace("x"), operPlace("y", "*", "f")
	return map[string]api.Value{
		"0":                                 {Kind: api.ValueOper, A: operInt(0)},
		"10":                                {Kind: api.ValueOper, A: operInt(10)},
		"2147483647":                        {Kind: api.ValueOper, A: operInt(api.MaxInt)},
		"true":                              {Kind: api.ValueOper, A: operBool(1)},
		"false":                             {Kind: api.ValueOper, A: operBool(0)},
		"x":                                 {Kind: api.ValueOper, A: x},
		"y.*.f":                             {Kind: api.ValueOper, A: p},
		"z.*.*.a.b.*":                       {Kind: api.ValueOper, A: operPlace("z", "*", "*", "a", "b", "*")},
		"&x":                                {Kind: api.ValueRef, Place: place("x")},
		"&x.f":                              {Kind: api.ValueRef, Place: place("x", "f")},
		"&mut x":                            {Kind: api.ValueMut, Place: place("x")},
		"&mut x.*":                          {Kind: api.ValueMut, Place: place("x", "*")},
		"!x":                                {Kind: api.ValueNot, A: x},
		"!true":                             {Kind: api.ValueNot, A: operBool(1)},
		"!7":                                {Kind: api.ValueNot, A: operInt(7)},
		"x + y.*.f":                         {Kind: api.ValueOp, Op: api.OpAdd, A: x, B: p},
		"x - 1":                             {Kind: api.ValueOp, Op: api.OpSub, A: x, B: operInt(1)},
		"0 < y.*.f":                         {Kind: api.ValueOp, Op: api.OpLess, A: operInt(0), B: p},
		"true == false":                     {Kind: api.ValueOp, Op: api.OpSame, A: operBool(1), B: operBool(0)},
		"g()":                               call("g"),
		"g(x)":                              call("g", x),
		"d::g(x, 1)":                        call("d::g", x, operInt(1)),
		"S { }":                             {Kind: api.ValueMake, Name: "S"},
		"d::S { }":                          {Kind: api.ValueMake, Name: "d::S"},
		"S { f: x }":                        {Kind: api.ValueMake, Name: "S", Names: []string{"f"}, Args: []api.Oper{x}},
		"d::S { f: 1, g: y.*.f, h: false }": {Kind: api.ValueMake, Name: "d::S", Names: []string{"f", "g", "h"}, Args: []api.Oper{operInt(1), p, operBool(0)}},
	}
}

func TestValues(t *testing.T) {
	for want, v := range valueTexts() {
		prints(t, inBody(set(v)), "fn f() {\n\tx = "+want+";\n}\n")
		prints(t, inBody(api.Stmt{Kind: api.StmtReturn, Has: true, Value: v}), "fn f() {\n\treturn "+want+";\n}\n")
		prints(t, inBody(api.Stmt{Kind: api.StmtLet, Name: "x", Type: number(), Has: true, Value: v}), "fn f() {\n\tlet x: int = "+want+";\n}\n")
	}
}

// Each kind of block, within each, down to the deepest that may be: as many tabs as blocks are open.
func TestDeepestBlocks(t *testing.T) {
	for begin, wrap := range map[string]api.Stmt{
		"{":                block(),
		"loop {":           {Kind: api.StmtLoop},
		"while x {":        {Kind: api.StmtWhile, Cond: operPlace("x")},
		"if x {":           {Kind: api.StmtIf, Cond: operPlace("x")},
		"if x {\n} else {": {Kind: api.StmtIf, Cond: operPlace("x"), Has: true},
	} {
		inner := []api.Stmt{{Kind: api.StmtBreak}}
		want := tabs(api.MaxDepth) + "break;\n"
		for depth := api.MaxDepth - 1; depth > 0; depth-- {
			if wrap.Has {
				wrap.Else = inner
			} else {
				wrap.Then = inner
			}
			inner = []api.Stmt{wrap}
			first := tabs(depth) + strings.ReplaceAll(begin, "\n", "\n"+tabs(depth))
			want = first + "\n" + want + tabs(depth) + "}\n"
		}
		prints(t, inBody(inner...), "fn f() {\n"+want+"}\n")
		refused(t, "blocks too deep", inBody(block(inner...)), api.ErrArg)
	}
}

func tabs(n int) string { return strings.Repeat("\t", n) }

// A block behind a deep one is as deep as it is.
func TestBlocksSideBySide(t *testing.T) {
	s := api.Stmt{Kind: api.StmtIf, Cond: operPlace("x"), Then: []api.Stmt{block(block()), block()}, Has: true, Else: []api.Stmt{block()}}
	want := "\tif x {\n\t\t{\n\t\t\t{\n\t\t\t}\n\t\t}\n\t\t{\n\t\t}\n\t} else {\n\t\t{\n\t\t}\n\t}\n"
	c := inBody(s, s)
	c.Funcs = append(c.Funcs, c.Funcs[0])
	prints(t, c, "fn f() {\n"+want+want+"}\nfn f() {\n"+want+want+"}\n")
}

// Crates made by chance, beside the texts that they are to have.
func TestMadeCrates(t *testing.T) {
	for seed := range int64(4000) {
		c, want := newMaker(seed).crate()
		prints(t, c, want)
	}
}

// Each thing within a full crate is changed in turn: what may still be is printed, and parsed as it is; all else is refused.
func TestSpoiled(t *testing.T) {
	c := full()
	right, wrong := 0, 0
	try := func(path string) {
		if tree.May(c) {
			right++
			printed(t, c)
		} else {
			wrong++
			refused(t, path, c, api.ErrArg)
		}
	}
	eachIn(reflect.ValueOf(&c).Elem(), "", func(path string, v reflect.Value) {
		old := reflect.New(v.Type()).Elem()
		old.Set(v)
		switch v.Kind() {
		case reflect.Int:
			for _, n := range []int64{-1, 0, 1, 2, 3, 4, 5, 6, 7, 8, 9, 10, 11, 12, api.MaxInt, api.MaxInt + 1, math.MaxInt, math.MinInt} {
				v.SetInt(n)
				try(path)
			}
		case reflect.Bool:
			v.SetBool(!v.Bool())
			try(path)
		case reflect.String:
			for _, s := range []string{"", "x", "let", "*", "d::g", "a::b::c", "1", "x y", "x\n", "'a", strings.Repeat("n", 32), strings.Repeat("n", 33)} {
				v.SetString(s)
				try(path)
			}
		case reflect.Slice:
			for n := range v.Len() {
				v.Set(old.Slice(0, n))
				try(path)
			}
			v.Set(reflect.Append(old.Slice3(0, old.Len(), old.Len()), reflect.Zero(v.Type().Elem())))
			try(path)
		}
		v.Set(old)
	})
	prints(t, c, fullText())
	if right < 500 || wrong < 3000 {
		t.Errorf("%d that may be and %d that may not be were tried", right, wrong)
	}
}

func TestRefused(t *testing.T) {
	one := api.Value{Kind: api.ValueOper, A: operInt(1)}
	params := make([]api.Field, api.MaxParts+1)
	for i := range params {
		params[i] = api.Field{Name: "x", Type: number()}
	}
	inParam := func(x api.Type) api.Crate {
		return api.Crate{Funcs: []api.Func{{Name: "f", Params: []api.Field{{Name: "x", Type: x}}}}}
	}
	for what, c := range map[string]api.Crate{
		"a struct without a name":      {Structs: []api.Struct{{}}},
		"a function without a name":    {Funcs: []api.Func{{}}},
		"a word as a name":             {Funcs: []api.Func{{Name: "fn"}}},
		"a field that is mut":          {Structs: []api.Struct{{Name: "S", Fields: []api.Field{{Mut: true, Name: "f", Type: number()}}}}},
		"a field of no type":           {Structs: []api.Struct{{Name: "S", Fields: []api.Field{{Name: "f"}}}}},
		"too many parameters":          {Funcs: []api.Func{{Name: "f", Params: params}}},
		"too many items":               {Structs: manyStructs(api.MaxItems), Funcs: []api.Func{{Name: "f"}}},
		"too many statements":          inBody(make([]api.Stmt, api.MaxStmts+1)...),
		"a result with a name alone":   {Funcs: []api.Func{{Name: "f", Result: api.Type{Name: "S"}}}},
		"a reference to nothing":       inParam(api.Type{Kind: api.KindRef}),
		"a reference to two":           inParam(api.Type{Kind: api.KindRef, Elem: []api.Type{number(), number()}}),
		"a reference of two lifetimes": inParam(ref(api.KindRef, number(), "a", "b")),
		"a type of an unknown Kind":    inParam(api.Type{Kind: 9}),
		"a type too deep":              inParam(refs(api.MaxDepth, number())),
		"a statement of no Kind":       inBody(api.Stmt{}),
		"a statement of a Kind above":  inBody(api.Stmt{Kind: api.StmtDrop + 1}),
		"a let of no type":             inBody(api.Stmt{Kind: api.StmtLet, Name: "x"}),
		"an else without Has":          inBody(api.Stmt{Kind: api.StmtIf, Cond: operInt(1), Else: []api.Stmt{block()}}),
		"a value without Has":          inBody(api.Stmt{Kind: api.StmtReturn, Value: one}),
		"a call that is none":          inBody(api.Stmt{Kind: api.StmtCall, Value: one}),
		"a number too small":           inBody(set(api.Value{Kind: api.ValueOper, A: operInt(-1)})),
		"a number too great":           inBody(set(api.Value{Kind: api.ValueOper, A: operInt(api.MaxInt + 1)})),
		"a bool of 2":                  inBody(set(api.Value{Kind: api.ValueOper, A: operBool(2)})),
		"a value of no Kind":           inBody(set(api.Value{})),
		"an operation of no sign":      inBody(set(api.Value{Kind: api.ValueOp, A: operInt(1), B: operInt(1)})),
		"names without arguments":      inBody(set(api.Value{Kind: api.ValueMake, Name: "S", Names: []string{"f"}})),
		"arguments without names":      inBody(set(api.Value{Kind: api.ValueMake, Name: "S", Args: []api.Oper{operInt(1)}})),
		"a path with a blank":          inBody(drop("x y")),
	} {
		refused(t, what, c, api.ErrArg)
	}
	prints(t, inParam(refs(api.MaxDepth-1, number())), "fn f(x: "+strings.Repeat("&", api.MaxDepth-1)+"int) {\n}\n")
	prints(t, api.Crate{Structs: manyStructs(api.MaxItems)}, strings.Repeat("struct S { }\n", api.MaxItems))
}

func manyStructs(n int) []api.Struct {
	l := make([]api.Struct, n)
	for i := range l {
		l[i].Name = "S"
	}
	return l
}

// A list that is within itself has no end, and may not be.
func TestRings(t *testing.T) {
	body := []api.Stmt{block()}
	body[0].Then = body
	refused(t, "a ring of blocks", inBody(body...), api.ErrArg)
	types := []api.Type{{Kind: api.KindRef}}
	types[0].Elem = types
	refused(t, "a ring of types", api.Crate{Funcs: []api.Func{{Name: "f", Result: types[0]}}}, api.ErrArg)
}

func TestKept(t *testing.T) {
	c, hollowed := full(), full()
	hollow(&hollowed)
	for _, x := range []api.Crate{c, hollowed, {Structs: []api.Struct{{}}}} {
		kept(t, x, func(x api.Crate) { print.Crate(x) })
	}
	for _, f := range append(c.Funcs, hollowed.Funcs...) {
		kept(t, f, func(f api.Func) { print.Head(f) })
		kept(t, f.Result, func(x api.Type) { print.Type(x) })
	}
	prints(t, c, fullText())
	prints(t, hollowed, fullText())
}

// 9.2

func typeTexts() map[string]api.Type {
	return map[string]api.Type{
		"int":               number(),
		"bool":              truth(),
		"S":                 named("S"),
		"d::S":              named("d::S"),
		"S<'a>":             named("S", "a"),
		"d::S<'a, 'b, 'fn>": named("d::S", "a", "b", "fn"),
		"&int":              ref(api.KindRef, number()),
		"&mut int":          ref(api.KindMut, number()),
		"&'a bool":          ref(api.KindRef, truth(), "a"),
		"&'a mut S":         ref(api.KindMut, named("S"), "a"),
		"&'mut S":           ref(api.KindRef, named("S"), "mut"),
		"&'mut mut S<'int>": ref(api.KindMut, named("S", "int"), "mut"),
		"&&int":             refs(2, number()),
		"&&mut &'b d::S":    ref(api.KindRef, ref(api.KindMut, ref(api.KindRef, named("d::S"), "b"))),
		"&'a mut &mut bool": ref(api.KindMut, ref(api.KindMut, truth()), "a"),
	}
}

func TestType(t *testing.T) {
	for want, x := range typeTexts() {
		if got := print.Type(x); got != want {
			t.Errorf("%q, not %q", got, want)
		}
		if back, err := parse.Type(want); err != nil || !tree.SameType(back, x) {
			t.Errorf("%q: parsed as another one", want)
		}
		prints(t, inBody(api.Stmt{Kind: api.StmtLet, Name: "x", Type: x}), "fn f() {\n\tlet x: "+want+";\n}\n")
		prints(t, api.Crate{Structs: []api.Struct{{Name: "S", Fields: []api.Field{{Name: "f", Type: x}}}}}, "struct S { f: "+want+" }\n")
	}
	for seed := range int64(2000) {
		x, want := newMaker(seed).typeOf()
		if got := print.Type(x); got != want {
			t.Fatalf("%q, not %q", got, want)
		}
	}
}

// Types that may not be are told as far as there is something to tell.
func TestTypeOfAny(t *testing.T) {
	all := api.Type{Name: "S", Lives: []string{"a", "b"}, Elem: []api.Type{number(), truth()}}
	of := func(kind int) api.Type {
		x := all
		x.Kind = kind
		return x
	}
	nothing := api.Type{Kind: api.KindRef, Lives: []string{"a"}}
	for _, x := range []struct {
		t    api.Type
		want string
	}{
		{api.Type{}, ""},
		{of(api.KindUnit), ""},
		{of(-1), ""},
		{of(api.KindMut + 1), ""},
		{of(math.MaxInt), ""},
		{of(math.MinInt), ""},
		{api.Type{Kind: api.KindRef}, ""},
		{api.Type{Kind: api.KindMut}, ""},
		{nothing, ""},
		{api.Type{Kind: api.KindMut, Lives: []string{"a"}, Elem: []api.Type{}}, ""},
		{of(api.KindInt), "int"},
		{of(api.KindBool), "bool"},
		{of(api.KindStruct), "S<'a, 'b>"},
		{of(api.KindRef), "&'a int"},
		{of(api.KindMut), "&'a mut int"},
		{ref(api.KindRef, api.Type{}), "&"},
		{ref(api.KindMut, api.Type{}), "&mut "},
		{ref(api.KindRef, of(9), "a"), "&'a "},
		{ref(api.KindRef, nothing), "&"},
		{ref(api.KindMut, ref(api.KindRef, nothing)), "&mut &"},
		{named(""), ""},
		{named("", "", ""), "<', '>"},
		{named("let me\n\xff::", "'", "a b"), "let me\n\xff::<'', 'a b>"},
		{named("S", strings.Split(strings.Repeat("a", 100), "")...), "S<" + strings.Repeat("'a, ", 99) + "'a>"},
		{refs(api.MaxDepth, number()), strings.Repeat("&", api.MaxDepth) + "int"},
		{refs(deepest-1, truth()), strings.Repeat("&", deepest-1) + "bool"},
		{refs(deepest-1, nothing), strings.Repeat("&", deepest-1)},
		{named(strings.Repeat("S", api.MaxText+1)), strings.Repeat("S", api.MaxText+1)},
	} {
		if got := print.Type(x.t); got != x.want {
			t.Errorf("Type %d: %q, not %q", x.t.Kind, short(got), short(x.want))
		}
	}
}

func TestHead(t *testing.T) {
	for want, f := range heads() {
		if got := print.Head(f); got != want {
			t.Errorf("%q, not %q", got, want)
		}
		// Neither a body nor a place is seen in a head.
		f.Body, f.At = []api.Stmt{{}, drop("x")}, 7
		if got := print.Head(f); got != want {
			t.Errorf("%q with a body, not %q", got, want)
		}
	}
	for seed := range int64(2000) {
		f, want := newMaker(seed).head()
		if got := print.Head(f); got != want {
			t.Fatalf("%q, not %q", got, want)
		}
	}
}

func TestHeadOfAny(t *testing.T) {
	result := func(x api.Type) api.Func { return api.Func{Name: "f", Result: x} }
	params := func(l ...api.Field) api.Func { return api.Func{Name: "f", Params: l} }
	many := strings.Repeat("x: int, ", 99)
	long := strings.Repeat("n", api.MaxText)
	for _, x := range []struct {
		f    api.Func
		want string
	}{
		{api.Func{}, "fn ()"},
		{api.Func{Pub: true}, "pub fn ()"},
		{api.Func{Name: "fn"}, "fn fn()"},
		{api.Func{Name: "d::f\n"}, "fn d::f\n()"},
		{result(api.Type{}), "fn f()"},
		{result(api.Type{Name: "S", Lives: []string{"a"}, Elem: []api.Type{number()}}), "fn f()"},
		{result(api.Type{Kind: -1}), "fn f() -> "},
		{result(api.Type{Kind: 9, Name: "S"}), "fn f() -> "},
		{result(api.Type{Kind: api.KindRef}), "fn f() -> "},
		{result(api.Type{Kind: api.KindMut, Lives: []string{"a"}}), "fn f() -> "},
		{result(named("")), "fn f() -> "},
		{result(ref(api.KindMut, api.Type{})), "fn f() -> &mut "},
		{result(refs(deepest-2, number())), "fn f() -> " + strings.Repeat("&", deepest-2) + "int"},
		{params(api.Field{}), "fn f(: )"},
		{params(api.Field{Mut: true, Name: "x"}, api.Field{Name: "y", Type: api.Type{Kind: 9}}), "fn f(mut x: , y: )"},
		{params(fields(strings.Split(strings.Repeat("x", 100), ""))...), "fn f(" + many + "x: int)"},
		{api.Func{Name: "f", Lives: []api.Life{{}, {Over: []string{"", ""}}}}, "fn f<', ': ' + '>()"},
		{api.Func{Name: "f", Lives: []api.Life{{Name: "a", Over: strings.Split(strings.Repeat("b", 100), "")}}}, "fn f<'a: " + strings.Repeat("'b + ", 99) + "'b>()"},
		{api.Func{Name: long, Params: fields([]string{long})}, "fn " + long + "(" + long + ": int)"},
	} {
		if got := print.Head(x.f); got != x.want {
			t.Errorf("%q, not %q", short(got), short(x.want))
		}
	}
}

func fields(names []string) (l []api.Field) {
	for _, s := range names {
		l = append(l, api.Field{Name: s, Type: number()})
	}
	return l
}

// An answer is the caller's own: it does not keep the bytes of a name.
func TestOwnBytes(t *testing.T) {
	name := strings.Clone("Some")
	if s := print.Type(named(name)); s != name || unsafe.StringData(s) == unsafe.StringData(name) {
		t.Errorf("%q shares its bytes with what was handed in", s)
	}
}

// 9.3

// Texts of every form, with remarks and with items in any order, become one text that stays.
func TestTexts(t *testing.T) {
	for text, want := range map[string]string{
		"// nothing\n": "",
		"fn f(){}":     "fn f() {\n}\n",
		"fn f(){}struct S{}pub fn g(){}pub struct T{}":                    "struct S { }\npub struct T { }\nfn f() {\n}\npub fn g() {\n}\n",
		"fn f(){if x{y=S{f:1};}else{}}":                                   "fn f() {\n\tif x {\n\t\ty = S { f: 1 };\n\t} else {\n\t}\n}\n",
		"fn f(){x=1-2;y=& mut z . * ;z=a<b;{}{}}":                         "fn f() {\n\tx = 1 - 2;\n\ty = &mut z.*;\n\tz = a < b;\n\t{\n\t}\n\t{\n\t}\n}\n",
		"fn f<'a:'b+'c>(x:& &'a d :: S<'b>)->&\n'a mut T{return// so\n;}": "fn f<'a: 'b + 'c>(x: &&'a d::S<'b>) -> &'a mut T {\n\treturn;\n}\n",
	} {
		c, err := parse.Crate(text)
		if err != nil {
			t.Fatalf("%q: error %d at %v", text, fault.Code(err), fault.Path(err))
		}
		prints(t, c, want)
	}
}

// Two crates with one text are one, but for At.
func TestUnlikeTexts(t *testing.T) {
	seen := map[string]api.Crate{}
	for seed := range int64(2000) {
		m := newMaker(seed)
		m.left = 1
		f, _ := m.function()
		c := inBody(f.Body...)
		s := printed(t, c)
		if old, ok := seen[s]; ok && !tree.Same(tree.Bare(old), tree.Bare(c)) {
			t.Fatalf("two unlike crates with one text:\n%s", s)
		}
		seen[s] = c
	}
}
