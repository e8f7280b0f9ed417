package parse_test

import (
	"math/rand"
	"reflect"
	"slices"
	"strings"
	"testing"
	"unsafe"

	"usufruct/api"
	"usufruct/lex"
	"usufruct/parse"
	"usufruct/tree"
)

func number() api.Type { return api.Type{Kind: api.KindInt} }

func truth() api.Type { return api.Type{Kind: api.KindBool} }

func named(name string, lives ...string) api.Type {
	return api.Type{Kind: api.KindStruct, Name: name, Lives: lives}
}

func ref(kind int, to api.Type, lives ...string) api.Type {
	return api.Type{Kind: kind, Lives: lives, Elem: []api.Type{to}}
}

func place(name string, path ...string) api.Place { return api.Place{Name: name, Path: path} }

func operInt(n int) api.Oper { return api.Oper{Kind: api.OperInt, N: n} }

func operBool(n int) api.Oper { return api.Oper{Kind: api.OperBool, N: n} }

func operPlace(name string, path ...string) api.Oper {
	return api.Oper{Kind: api.OperPlace, Place: place(name, path...)}
}

// types are texts of types, and what they mean.
func types() map[string]api.Type {
	return map[string]api.Type{
		"int":               number(),
		"bool":              truth(),
		"S":                 named("S"),
		"d::S":              named("d::S"),
		"d :: S":            named("d::S"),
		"S<'a>":             named("S", "a"),
		"d::S<'a, 'b, 'fn>": named("d::S", "a", "b", "fn"),
		"&int":              ref(api.KindRef, number()),
		"&mut int":          ref(api.KindMut, number()),
		"&'a bool":          ref(api.KindRef, truth(), "a"),
		"&'a mut S":         ref(api.KindMut, named("S"), "a"),
		"&'mut S":           ref(api.KindRef, named("S"), "mut"),
		"&'mut mut S<'int>": ref(api.KindMut, named("S", "int"), "mut"),
		"&&mut&'b d::S":     ref(api.KindRef, ref(api.KindMut, ref(api.KindRef, named("d::S"), "b"))),
	}
}

// values are texts of values, and what they mean.
func values() map[string]api.Value {
	return map[string]api.Value{
		"0":                     {Kind: api.ValueOper, A: operInt(0)},
		"2147483647":            {Kind: api.ValueOper, A: operInt(api.MaxInt)},
		"true":                  {Kind: api.ValueOper, A: operBool(1)},
		"false":                 {Kind: api.ValueOper, A: operBool(0)},
		"x":                     {Kind: api.ValueOper, A: operPlace("x")},
		"x.f.*.*.g":             {Kind: api.ValueOper, A: operPlace("x", "f", "*", "*", "g")},
		"&x":                    {Kind: api.ValueRef, Place: place("x")},
		"&x.*":                  {Kind: api.ValueRef, Place: place("x", "*")},
		"&mut x":                {Kind: api.ValueMut, Place: place("x")},
		"&mut x.f":              {Kind: api.ValueMut, Place: place("x", "f")},
		"!x.f":                  {Kind: api.ValueNot, A: operPlace("x", "f")},
		"!true":                 {Kind: api.ValueNot, A: operBool(1)},
		"!3":                    {Kind: api.ValueNot, A: operInt(3)},
		"x + 1":                 {Kind: api.ValueOp, Op: api.OpAdd, A: operPlace("x"), B: operInt(1)},
		"1-y.*":                 {Kind: api.ValueOp, Op: api.OpSub, A: operInt(1), B: operPlace("y", "*")},
		"x.f<y":                 {Kind: api.ValueOp, Op: api.OpLess, A: operPlace("x", "f"), B: operPlace("y")},
		"true == false":         {Kind: api.ValueOp, Op: api.OpSame, A: operBool(1), B: operBool(0)},
		"g()":                   {Kind: api.ValueCall, Name: "g"},
		"g(1)":                  {Kind: api.ValueCall, Name: "g", Args: []api.Oper{operInt(1)}},
		"d::g(x.f, true, 2)":    {Kind: api.ValueCall, Name: "d::g", Args: []api.Oper{operPlace("x", "f"), operBool(1), operInt(2)}},
		"S { }":                 {Kind: api.ValueMake, Name: "S"},
		"S{f:1}":                {Kind: api.ValueMake, Name: "S", Names: []string{"f"}, Args: []api.Oper{operInt(1)}},
		"d::S { f: x.*, g: y }": {Kind: api.ValueMake, Name: "d::S", Names: []string{"f", "g"}, Args: []api.Oper{operPlace("x", "*"), operPlace("y")}},
	}
}

func TestTypes(t *testing.T) {
	for s, want := range types() {
		if got := parsedType(t, s); !tree.SameType(got, want) {
			t.Errorf("%q: %+v, not %+v", s, got, want)
		}
		c := parsed(t, "struct S { f: "+s+" } fn f(x: "+s+") -> "+s+" { let y: "+s+"; let z: "+s+" = 1; }")
		f := c.Funcs[0]
		for _, got := range []api.Type{c.Structs[0].Fields[0].Type, f.Params[0].Type, f.Result, f.Body[0].Type, f.Body[1].Type} {
			if !tree.SameType(got, want) {
				t.Errorf("%q in a crate: %+v, not %+v", s, got, want)
			}
		}
	}
}

func TestValues(t *testing.T) {
	for s, v := range values() {
		c := parsed(t, "fn f() { let x: S = "+s+"; y.g = "+s+"; return "+s+"; }")
		second := len("fn f() { let x: S = ; ") + len(s)
		third := second + len("y.g = ; ") + len(s)
		want := api.Crate{Funcs: []api.Func{{Name: "f", Body: []api.Stmt{
			{Kind: api.StmtLet, At: bodyAt, Name: "x", Type: named("S"), Has: true, Value: v},
			{Kind: api.StmtSet, At: second, Place: place("y", "g"), Value: v},
			{Kind: api.StmtReturn, At: third, Has: true, Value: v},
		}}}}
		if !tree.Same(c, want) {
			t.Errorf("%q: %+v, not %+v", s, c, want)
		}
	}
}

// stmts are texts of statements, and what they mean; places are counted from the statement on.
func stmts() map[string]api.Stmt {
	inner := func(at int) []api.Stmt { return []api.Stmt{{Kind: api.StmtBreak, At: at}} }
	return map[string]api.Stmt{
		"let x: int;":                 {Kind: api.StmtLet, Name: "x", Type: number()},
		"let mut x: &S = &y;":         {Kind: api.StmtLet, Mut: true, Name: "x", Type: ref(api.KindRef, named("S")), Has: true, Value: values()["&x"]},
		"x = 0;":                      {Kind: api.StmtSet, Place: place("x"), Value: values()["0"]},
		"x.f.* = g();":                {Kind: api.StmtSet, Place: place("x", "f", "*"), Value: values()["g()"]},
		"g();":                        {Kind: api.StmtCall, Value: values()["g()"]},
		"d::g(x.f, true, 2);":         {Kind: api.StmtCall, Value: values()["d::g(x.f, true, 2)"]},
		"if x { }":                    {Kind: api.StmtIf, Cond: operPlace("x")},
		"if x.f { break; }":           {Kind: api.StmtIf, Cond: operPlace("x", "f"), Then: inner(9)},
		"if true { } else { }":        {Kind: api.StmtIf, Cond: operBool(1), Has: true},
		"if 1 { } else { break; }":    {Kind: api.StmtIf, Cond: operInt(1), Has: true, Else: inner(16)},
		"if x {break;} else {break;}": {Kind: api.StmtIf, Cond: operPlace("x"), Then: inner(6), Has: true, Else: inner(20)},
		"while x.* { }":               {Kind: api.StmtWhile, Cond: operPlace("x", "*")},
		"while false { break; }":      {Kind: api.StmtWhile, Cond: operBool(0), Then: inner(14)},
		"loop { }":                    {Kind: api.StmtLoop},
		"loop { break; }":             {Kind: api.StmtLoop, Then: inner(7)},
		"{ }":                         {Kind: api.StmtBlock},
		"{ break; }":                  {Kind: api.StmtBlock, Then: inner(2)},
		"break;":                      {Kind: api.StmtBreak},
		"continue;":                   {Kind: api.StmtContinue},
		"return;":                     {Kind: api.StmtReturn},
		"return 0;":                   {Kind: api.StmtReturn, Has: true, Value: values()["0"]},
		"drop x;":                     {Kind: api.StmtDrop, Place: place("x")},
		"drop x.*.f;":                 {Kind: api.StmtDrop, Place: place("x", "*", "f")},
	}
}

// stmtsMoved are statements that stand so much farther behind.
func stmtsMoved(l []api.Stmt, by int) []api.Stmt {
	var moved []api.Stmt
	for _, s := range l {
		s.At += by
		s.Then, s.Else = stmtsMoved(s.Then, by), stmtsMoved(s.Else, by)
		moved = append(moved, s)
	}
	return moved
}

func TestStatements(t *testing.T) {
	for s, want := range stmts() {
		if s == "let mut x: &S = &y;" {
			want.Value.Place.Name = "y"
		}
		got := parsed(t, inBody(s+" "+s))
		body := stmtsMoved([]api.Stmt{want}, bodyAt)
		body = append(body, stmtsMoved([]api.Stmt{want}, bodyAt+len(s)+1)...)
		if !tree.Same(got, api.Crate{Funcs: []api.Func{{Name: "f", Body: body}}}) {
			t.Errorf("%q: %+v, not %+v", s, got.Funcs[0].Body, body)
		}
	}
}

func TestItems(t *testing.T) {
	field := func(mut bool, name string, x api.Type) api.Field {
		return api.Field{Mut: mut, Name: name, Type: x}
	}
	for s, want := range map[string]api.Crate{
		"":                   {},
		" \n\t":              {},
		"// fn f() { }":      {},
		"struct S { }":       {Structs: []api.Struct{{Name: "S"}}},
		"pub struct S{}":     {Structs: []api.Struct{{Pub: true, Name: "S", At: 4}}},
		"\n struct S<'a>{ }": {Structs: []api.Struct{{Name: "S", Lives: []string{"a"}, At: 2}}},
		"struct S<'struct, 'b, 'b> { f: int, g: &'b S<'a> }": {Structs: []api.Struct{{
			Name: "S", Lives: []string{"struct", "b", "b"},
			Fields: []api.Field{field(false, "f", number()), field(false, "g", ref(api.KindRef, named("S", "a"), "b"))},
		}}},
		"fn f() { }":            {Funcs: []api.Func{{Name: "f"}}},
		"pub\nfn f() -> int {}": {Funcs: []api.Func{{Pub: true, Name: "f", Result: number(), At: 4}}},
		"fn f<'a>() { }":        {Funcs: []api.Func{{Name: "f", Lives: []api.Life{{Name: "a"}}}}},
		"fn f<'a: 'b>() {}":     {Funcs: []api.Func{{Name: "f", Lives: []api.Life{{Name: "a", Over: []string{"b"}}}}}},
		"fn f<'a, 'b: 'a + 'c + 'fn, 'd: 'd>(x: int, mut y: &S) -> &'a d::S<'b> { }": {Funcs: []api.Func{{
			Name:   "f",
			Lives:  []api.Life{{Name: "a"}, {Name: "b", Over: []string{"a", "c", "fn"}}, {Name: "d", Over: []string{"d"}}},
			Params: []api.Field{field(false, "x", number()), field(true, "y", ref(api.KindRef, named("S")))},
			Result: ref(api.KindRef, named("d::S", "b"), "a"),
		}}},
		"fn f(){}struct f{}pub fn f(){}pub struct S{}": {
			Structs: []api.Struct{{Name: "f", At: 8}, {Pub: true, Name: "S", At: 34}},
			Funcs:   []api.Func{{Name: "f"}, {Pub: true, Name: "f", At: 22}},
		},
	} {
		if got := parsed(t, s); !tree.Same(got, want) {
			t.Errorf("%q: %+v, not %+v", s, got, want)
		}
	}
}

func TestWrong(t *testing.T) {
	for _, x := range []struct {
		s    string
		path []int
	}{
		{"fn f( {", []int{0, 6}},
		{"x", []int{0}},
		{"pub", []int{3}},
		{"pub ", []int{4}},
		{"pub pub fn f() { }", []int{4}},
		{"pub 'fn", []int{4}},
		{"'struct", []int{0}},
		{"fn f() { } ;", []int{11}},
		{"fn f() { } }", []int{11}},
		{"struct S { } let", []int{13}},
		{"fn", []int{0, 2}},
		{" pub fn // no name\n", []int{5, 19}},
		{"pub struct fn { }", []int{4, 11}},
		{"struct d::S { }", []int{0, 8}},
		{"fn d::f() { }", []int{0, 4}},
		{"struct S { f: int g: int }", []int{0, 18}},
		{"struct S { f: int, }", []int{0, 19}},
		{"struct S { mut f: int }", []int{0, 11}},
		{"struct S { f }", []int{0, 13}},
		{"struct S<> { }", []int{0, 9}},
		{"struct S<'a: 'b> { }", []int{0, 11}},
		{"struct S<'a,> { }", []int{0, 12}},
		{"struct S<a> { }", []int{0, 9}},
		{"fn f<>() { }", []int{0, 5}},
		{"fn f<'a:>() { }", []int{0, 8}},
		{"fn f<'a: 'b +>() { }", []int{0, 13}},
		{"fn f<'a: 'b 'c>() { }", []int{0, 12}},
		{"fn f { }", []int{0, 5}},
		{"fn f(x) { }", []int{0, 6}},
		{"fn f(mut mut x: int) { }", []int{0, 9}},
		{"fn f() -> { }", []int{0, 10}},
		{"fn f() - > int { }", []int{0, 7}},
		{"fn f() ;", []int{0, 7}},
		{"fn f(x: &'a 'b int) { }", []int{0, 12}},
		{"fn f(x: &mut 'a int) { }", []int{0, 13}},
		{"fn f(x: mut int) { }", []int{0, 8}},
		{"fn f(x: int<'a>) { }", []int{0, 11}},
		{"fn f(x: a::b::c) { }", []int{0, 12}},
		{"fn f(x: a: :b) { }", []int{0, 9}},
		{"fn f(x: S<int>) { }", []int{0, 10}},
		{"fn f() { } fn g() { } pub fn h( { }", []int{26, 32}},
		{"fn f() { x; }", []int{0, 10}},
		{"fn f() { x + 1; }", []int{0, 11}},
		{"fn f() { x.f(); }", []int{0, 12}},
		{"fn f() { x.* = y.f(); }", []int{0, 18}},
		{"fn f() { x = y.f { }; }", []int{0, 17}},
		{"fn f() { x. = y; }", []int{0, 12}},
		{"fn f() { x.1 = y; }", []int{0, 11}},
		{"fn f() { *x = y; }", []int{0, 9}},
		{"fn f() { x == y; }", []int{0, 11}},
		{"fn f() { S { }; }", []int{0, 11}},
		{"fn f() { a::b; }", []int{0, 13}},
		{"fn f() { a::b = 1; }", []int{0, 14}},
		{"fn f() { x = a::b; }", []int{0, 17}},
		{"fn f() { x = a::b + 1; }", []int{0, 18}},
		{"fn f() { x = a::b.c; }", []int{0, 17}},
		{"fn f() { x = a::b::c(); }", []int{0, 17}},
		{"fn f() { x = a::; }", []int{0, 16}},
		{"fn f() { x = -1; }", []int{0, 13}},
		{"fn f() { x = 1 + 2 + 3; }", []int{0, 19}},
		{"fn f() { x = 1 > 2; }", []int{0, 15}},
		{"fn f() { x = 1(); }", []int{0, 14}},
		{"fn f() { x = true.f; }", []int{0, 17}},
		{"fn f() { x = !!y; }", []int{0, 14}},
		{"fn f() { x = !y + 1; }", []int{0, 16}},
		{"fn f() { x = &1; }", []int{0, 14}},
		{"fn f() { x = &&y; }", []int{0, 14}},
		{"fn f() { x = &'a y; }", []int{0, 14}},
		{"fn f() { x = &y(); }", []int{0, 15}},
		{"fn f() { x = g(h()); }", []int{0, 16}},
		{"fn f() { x = g(&y); }", []int{0, 15}},
		{"fn f() { x = g(1,); }", []int{0, 17}},
		{"fn f() { x = g(1 2); }", []int{0, 17}},
		{"fn f() { x = g(a::b); }", []int{0, 16}},
		{"fn f() { x = S { f: 1, }; }", []int{0, 23}},
		{"fn f() { x = S { f }; }", []int{0, 19}},
		{"fn f() { x = S { f: 1 g: 2 }; }", []int{0, 22}},
		{"fn f() { x = S { int: 1 }; }", []int{0, 17}},
		{"fn f() { x = ; }", []int{0, 13}},
		{"fn f() { x = 1 }", []int{0, 15}},
		{"fn f() { return return; }", []int{0, 16}},
		{"fn f() { return x }", []int{0, 18}},
		{"fn f() { let x = 1; }", []int{0, 15}},
		{"fn f() { let x: ; }", []int{0, 16}},
		{"fn f() { let x: int 1; }", []int{0, 20}},
		{"fn f() { let x: S<y; }", []int{0, 18}},
		{"fn f() { let true: bool; }", []int{0, 13}},
		{"fn f() { break x; }", []int{0, 15}},
		{"fn f() { continue }", []int{0, 18}},
		{"fn f() { drop 1; }", []int{0, 14}},
		{"fn f() { drop ; }", []int{0, 14}},
		{"fn f() { if { } }", []int{0, 12}},
		{"fn f() { if x == 1 { } }", []int{0, 14}},
		{"fn f() { if !x { } }", []int{0, 12}},
		{"fn f() { if g() { } }", []int{0, 13}},
		{"fn f() { if x break; }", []int{0, 14}},
		{"fn f() { if x { } else if y { } }", []int{0, 23}},
		{"fn f() { if x { }; }", []int{0, 17}},
		{"fn f() { else { } }", []int{0, 9}},
		{"fn f() { while { } }", []int{0, 15}},
		{"fn f() { while x { } else { } }", []int{0, 21}},
		{"fn f() { loop x { } }", []int{0, 14}},
		{"fn f() { ; }", []int{0, 9}},
		{"fn f() { fn g() { } }", []int{0, 9}},
		{"fn f() { { }", []int{0, 12}},
		{"fn f() { } fn g() {\n// }\n", []int{11, 25}},
	} {
		refused(t, x.s, api.ErrSyntax, x.path...)
	}
}

// forms are small texts that have every form of the grammar between them.
func forms() []string {
	list := []string{"", "pub struct S<'a, 'b> { f: int, g: bool } struct T { }", "pub fn f<'a: 'b + 'c, 'b>(mut x: int, y: bool) -> int { } fn g() { }"}
	for s := range types() {
		list = append(list, "struct S { f: "+s+" }", "fn f(x: "+s+") -> "+s+" { }", inBody("let x: "+s+" = y;"))
	}
	for s := range values() {
		list = append(list, inBody("let x: T = "+s+";"), inBody("x = "+s+";"), inBody("return "+s+";"))
	}
	for s := range stmts() {
		list = append(list, inBody(s), "struct S { } "+inBody("{ "+s+" } x = y;"))
	}
	slices.Sort(list)
	return list
}

// Every form is cut short at every token, and has every other token put in, put instead, or left out everywhere.
func TestFormsSpoilt(t *testing.T) {
	o := newOracle("crate")
	right := 0
	for _, form := range forms() {
		list := pieces(t, form)
		ask := func(parts ...[]string) {
			s, _ := spaced(slices.Concat(parts...))
			if o.asGrammar(t, s) {
				right++
			}
		}
		ask(list)
		for i := range len(list) + 1 {
			ask(list[:i])
			for _, token := range vocabulary() {
				ask(list[:i], []string{token}, list[i:])
				if i < len(list) {
					ask(list[:i], []string{token}, list[i+1:])
				}
			}
			if i < len(list) {
				ask(list[:i], list[i+1:])
			}
		}
	}
	if right < len(forms()) {
		t.Errorf("only %d texts are right", right)
	}
}

func TestTypesSpoilt(t *testing.T) {
	o := newOracle("type")
	for form := range types() {
		list := pieces(t, form)
		for i := range len(list) + 1 {
			s, _ := spaced(list[:i])
			o.asType(t, s)
			for _, token := range vocabulary() {
				s, _ = spaced(slices.Insert(slices.Clone(list), i, token))
				o.asType(t, s)
				s, _ = spaced(slices.Concat(list[:i], []string{token}))
				o.asType(t, s)
			}
		}
	}
}

func TestTypeWrong(t *testing.T) {
	for s, at := range map[string]int{
		"":               0,
		"  // int\n":     9,
		"int int":        4,
		"int;":           3,
		"&":              1,
		"&'a":            3,
		"&mut":           4,
		"'a int":         0,
		"mut int":        0,
		"&int bool":      5,
		"S<":             2,
		"S<>":            2,
		"S<'a":           4,
		"S<'a,>":         5,
		"S<'a>>":         5,
		"S<'a><'b>":      5,
		"S::":            3,
		"a::b::c":        4,
		"a::int":         3,
		"()":             0,
		"fn":             0,
		"1":              0,
		"fn f() { }":     0,
		"& &'a mut 'b T": 10,
	} {
		refusedType(t, s, api.ErrSyntax, at)
	}
}

// Layer 6's errors are told first, whatever else is wrong, and of no item.
func TestTokensFirst(t *testing.T) {
	for s, at := range map[string]int{
		"$":                       0,
		"fn f() { $ }":            9,
		"fn fn fn $":              9,
		"} 01":                    2,
		"fn f() { x = 2147483648": 13,
		"fn f() { } '":            11,
	} {
		refused(t, s, api.ErrToken, at)
		refusedType(t, s, api.ErrToken, at)
	}
	long := strings.Repeat(" ", api.MaxText-3)
	parsedType(t, long+"int")
	refusedType(t, long+"int ", api.ErrLong, 0)
	refusedType(t, long+"$$$$", api.ErrLong, 0)
	parsed(t, long)
	refused(t, long+"    ", api.ErrLong, 0)
	refused(t, long+"$$$$", api.ErrLong, 0)
	parsed(t, "fn f() { }//"+strings.Repeat("}", api.MaxText-12))
	refused(t, "fn f() { }//"+strings.Repeat("}", api.MaxText-11), api.ErrLong, 0)
}

// gaps are what may stand between two tokens, wherever.
func gaps() []string {
	return []string{" ", "\n", "\t", "  \n\t ", "//\n", " // fn f( { 'x $ \"\n", "\n////\n\t//\n"}
}

// gapBetween is one of these, or now and then nothing, where two tokens stay two without.
func gapBetween(r *rand.Rand, list []string, i int) string {
	if i > 0 && i < len(list) && r.Intn(3) == 0 {
		tokens, err := lex.Lex(list[i-1] + list[i])
		if err == nil && len(tokens) == 3 && tokens[1].At == len(list[i-1]) {
			return ""
		}
	}
	if i == 0 && r.Intn(2) == 0 {
		return ""
	}
	all := gaps()
	return all[r.Intn(len(all))]
}

func TestByChance(t *testing.T) {
	o := newOracle("crate")
	for seed := range int64(1500) {
		m := newMaker(seed)
		want := m.crate()
		if !tree.May(want) {
			t.Fatal("the test's own crate may not be")
		}
		s, places := spaced(m.list)
		same(t, s, parsed(t, s), want, places)
		if seed%10 == 0 && !o.asGrammar(t, s) {
			t.Fatalf("%q: the grammar refuses it", short(s))
		}
		for range 3 {
			s, places = lay(m.list, func(i int) string { return gapBetween(m.r, m.list, i) })
			same(t, s, parsed(t, s), want, places)
		}
		s, places = spaced(append(m.list, "// }"))
		same(t, s, parsed(t, s), want, places)
	}
}

func TestTypesByChance(t *testing.T) {
	for seed := range int64(1000) {
		m := newMaker(seed)
		want := m.typeOf()
		for range 3 {
			s, _ := lay(m.list, func(i int) string { return gapBetween(m.r, m.list, i) })
			if got := parsedType(t, s); !tree.SameType(got, want) {
				t.Fatalf("%q: %+v, not %+v", s, got, want)
			}
		}
	}
}

// spoil changes some tokens by chance.
func spoil(r *rand.Rand, list []string) []string {
	list = slices.Clone(list)
	all := vocabulary()
	for range 1 + r.Intn(3) {
		i, j := r.Intn(len(list)+1), r.Intn(len(list)+1)
		switch r.Intn(5) {
		case 0:
			list = slices.Insert(list, i, all[r.Intn(len(all))])
		case 1:
			list = list[:i]
		case 2:
			list = slices.Delete(list, min(i, j), min(i, j)+min(1, len(list)-min(i, j)))
		case 3:
			list = slices.Concat(list[:i], list[min(i, j):])
		case 4:
			if i < len(list) && j < len(list) {
				list[i], list[j] = list[j], list[i]
			}
		}
	}
	return list
}

// The gaps between the tokens change nothing but an error's places, either.
func TestSpoiltByChance(t *testing.T) {
	o := newOracle("crate")
	wrong := 0
	for seed := range int64(1200) {
		m := newMaker(seed)
		m.left = 6
		m.crate()
		for range 4 {
			list := spoil(m.r, m.list)
			s, _ := lay(list, func(i int) string { return gapBetween(m.r, list, i) })
			if !o.asGrammar(t, s) {
				wrong++
			}
		}
	}
	if wrong < 1000 {
		t.Errorf("only %d texts are wrong", wrong)
	}
}

// Tokens without any order end, and are refused where the grammar refuses them.
func TestTokensByChance(t *testing.T) {
	o := newOracle("crate")
	r := rand.New(rand.NewSource(8))
	all := vocabulary()
	for range 3000 {
		list := []string{"fn", "f", "(", ")", "{"}[:r.Intn(6)]
		for range r.Intn(12) {
			list = append(slices.Clone(list), all[r.Intn(len(all))])
		}
		s, _ := spaced(list)
		o.asGrammar(t, s)
	}
}

const every = "struct S<'a, 'b> { f: &'a mut int, g: d::T<'a, 'b> } pub fn f<'a: 'b + 'c, 'b>(mut x: S<'a>, y: &bool) -> &'a int " +
	"{ if y.* { x.f.* = S { f: 1, g: y.* }; } else { while x { drop x.g.*; } } let z: &S<'a> = d::g(x, 1); { loop { break; } } return a.b + c.d; }"

// What is answered is the caller's own: the text is neither changed nor kept.
func TestTextOfItsOwn(t *testing.T) {
	for _, s := range []string{every, "fn f( {", "fn f() { $ }"} {
		b := []byte(s)
		c, err := parse.Crate(unsafe.String(&b[0], len(b)))
		if string(b) != s {
			t.Fatalf("%q has become %q", s, b)
		}
		for i := range b {
			b[i] = '?'
		}
		again, errAgain := parse.Crate(s)
		if !tree.Same(c, again) || !reflect.DeepEqual(err, errAgain) {
			t.Errorf("%q: the answer is not the same once the text is gone", s)
		}
	}
	b := []byte("&'a mut d::S<'b>")
	x, _ := parse.Type(unsafe.String(&b[0], len(b)))
	for i := range b {
		b[i] = '?'
	}
	if !tree.SameType(x, ref(api.KindMut, named("d::S", "b"), "a")) {
		t.Errorf("a type has become %+v", x)
	}
}

// extent is the memory of a list, as far as it could be made longer.
type extent struct{ begin, end uintptr }

func extents(v reflect.Value, tell func(e extent)) {
	switch v.Kind() {
	case reflect.Struct:
		for i := range v.NumField() {
			extents(v.Field(i), tell)
		}
	case reflect.Slice:
		if size := v.Type().Elem().Size() * uintptr(v.Cap()); size > 0 {
			tell(extent{v.Pointer(), v.Pointer() + size})
		}
		for i := range v.Len() {
			extents(v.Index(i), tell)
		}
	}
}

// No two lists of one answer, or of two answers, share anything.
func TestListsOfTheirOwn(t *testing.T) {
	answers := []api.Crate{parsed(t, every), parsed(t, every)}
	var all []extent
	extents(reflect.ValueOf(answers), func(e extent) { all = append(all, e) })
	slices.SortFunc(all, func(a, b extent) int { return int(a.begin) - int(b.begin) })
	for i := range all[1:] {
		if all[i].end > all[i+1].begin {
			t.Fatalf("two lists share memory: %v, %v", all[i], all[i+1])
		}
	}
	if len(all) < 40 {
		t.Errorf("only %d lists", len(all))
	}
}
