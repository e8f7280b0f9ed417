package print_test

import (
	"fmt"
	"reflect"
	"slices"
	"strings"
	"testing"

	"usufruct/api"
	"usufruct/fault"
	"usufruct/parse"
	"usufruct/print"
	"usufruct/tree"
)

func number() api.Type { return api.Type{Kind: api.KindInt} }

func truth() api.Type { return api.Type{Kind: api.KindBool} }

func named(name string, lives ...string) api.Type {
	return api.Type{Kind: api.KindStruct, Name: name, Lives: lives}
}

func ref(kind int, to api.Type, lives ...string) api.Type {
	return api.Type{Kind: kind, Lives: lives, Elem: []api.Type{to}}
}

// refs is a type within so many references.
func refs(n int, to api.Type) api.Type {
	for range n {
		to = ref(api.KindRef, to)
	}
	return to
}

func place(name string, path ...string) api.Place { return api.Place{Name: name, Path: path} }

func operInt(n int) api.Oper { return api.Oper{Kind: api.OperInt, N: n} }

func operBool(n int) api.Oper { return api.Oper{Kind: api.OperBool, N: n} }

func operPlace(name string, path ...string) api.Oper {
	return api.Oper{Kind: api.OperPlace, Place: place(name, path...)}
}

func call(name string, args ...api.Oper) api.Value {
	return api.Value{Kind: api.ValueCall, Name: name, Args: args}
}

func set(v api.Value) api.Stmt {
	return api.Stmt{Kind: api.StmtSet, Place: place("x"), Value: v}
}

func drop(name string) api.Stmt { return api.Stmt{Kind: api.StmtDrop, Place: place(name)} }

func block(l ...api.Stmt) api.Stmt { return api.Stmt{Kind: api.StmtBlock, Then: l} }

func inBody(l ...api.Stmt) api.Crate {
	return api.Crate{Funcs: []api.Func{{Name: "f", Body: l}}}
}

// short keeps a long text out of what a test tells.
func short(s string) string {
	if len(s) > 2000 {
		return s[:1000] + " .. " + s[len(s)-1000:]
	}
	return s
}

// printed asks for all that holds of a crate that is printed, and answers its text.
func printed(t *testing.T, c api.Crate) string {
	t.Helper()
	s, err := print.Crate(c)
	if err != nil {
		t.Fatalf("error %d at %v of %+v", fault.Code(err), fault.Path(err), c)
	}
	back, err := parse.Crate(s)
	if err != nil {
		t.Fatalf("9.3: not parsed: error %d at %v of\n%s", fault.Code(err), fault.Path(err), short(s))
	}
	if !tree.Same(tree.Bare(back), tree.Bare(c)) {
		t.Fatalf("9.3: parsed as another one:\n%s", short(s))
	}
	if again, err := print.Crate(back); err != nil || again != s {
		t.Fatalf("9.3: printed again: error %d, and\n%s\nnot\n%s", fault.Code(err), short(again), short(s))
	}
	return s
}

func prints(t *testing.T, c api.Crate, want string) {
	t.Helper()
	if got := printed(t, c); got != want {
		t.Fatalf("9.1: printed\n%s\nnot\n%s", short(got), short(want))
	}
}

// refused asks for an error's number, that its place is 0 and the only one, and that nothing else is told.
func refused(t *testing.T, what string, c api.Crate, code api.Errno) {
	t.Helper()
	s, err := print.Crate(c)
	if fault.Code(err) != code || !slices.Equal(fault.Path(err), []int{0}) || !fault.Is(err, code) {
		t.Errorf("%s: error %d at %v, not %d at 0", what, fault.Code(err), fault.Path(err), code)
	}
	if s != "" {
		t.Errorf("%s: a text beside an error", what)
	}
}

// kept asks that a call leaves what it is handed as it was, down to lists that are nil.
func kept[T any](t *testing.T, x T, do func(x T)) {
	t.Helper()
	ahead := fmt.Sprintf("%#v", x)
	do(x)
	if fmt.Sprintf("%#v", x) != ahead {
		t.Error("what is handed in has changed")
	}
}

// eachIn goes through all within v, from the outside to the inside; path tells fields by their names and members by their places.
func eachIn(v reflect.Value, path string, tell func(path string, v reflect.Value)) {
	tell(path, v)
	switch v.Kind() {
	case reflect.Struct:
		for i := range v.NumField() {
			eachIn(v.Field(i), path+"."+v.Type().Field(i).Name, tell)
		}
	case reflect.Slice:
		for i := range v.Len() {
			eachIn(v.Index(i), fmt.Sprint(path, ".", i), tell)
		}
	}
}

// hollow puts a list that is empty, but not nil, into the place of each that is nil.
func hollow(c *api.Crate) {
	eachIn(reflect.ValueOf(c).Elem(), "", func(path string, v reflect.Value) {
		if v.Kind() == reflect.Slice && v.IsNil() {
			v.Set(reflect.MakeSlice(v.Type(), 0, 1))
		}
	})
}

// full has every Kind that there is, and may be; fullText is its text.
func full() api.Crate {
	deep := ref(api.KindRef, ref(api.KindMut, named("d::S", "a", "fn"), "mut"))
	sets := []api.Stmt{
		set(api.Value{Kind: api.ValueOper, A: operInt(api.MaxInt)}),
		set(api.Value{Kind: api.ValueRef, Place: place("x", "f", "*")}),
		set(api.Value{Kind: api.ValueMut, Place: place("x")}),
		set(api.Value{Kind: api.ValueNot, A: operBool(1)}),
		set(api.Value{Kind: api.ValueOp, Op: api.OpAdd, A: operPlace("x", "*"), B: operInt(0)}),
		set(call("d::g", operInt(1), operPlace("y", "g"))),
		set(api.Value{Kind: api.ValueMake, Name: "S", Names: []string{"f", "g"}, Args: []api.Oper{operInt(7), operPlace("y")}}),
		set(api.Value{Kind: api.ValueMake, Name: "d::S"}),
	}
	body := []api.Stmt{
		{Kind: api.StmtLet, At: 11, Mut: true, Name: "a", Type: deep, Has: true, Value: call("g", operBool(0))},
		{Kind: api.StmtLet, At: 12, Name: "b", Type: truth()},
		{Kind: api.StmtIf, At: 13, Cond: operPlace("b", "f"), Then: sets, Has: true, Else: []api.Stmt{drop("c"), block()}},
		{Kind: api.StmtIf, At: 14, Cond: operBool(1)},
		{Kind: api.StmtWhile, At: 15, Cond: operInt(3), Then: []api.Stmt{
			{Kind: api.StmtLoop, At: 16, Then: []api.Stmt{{Kind: api.StmtBreak, At: 17}}},
			{Kind: api.StmtContinue, At: 18},
		}},
		{Kind: api.StmtCall, At: 40, Value: call("d::g", operPlace("a"))},
		{Kind: api.StmtReturn, At: 42, Has: true, Value: api.Value{Kind: api.ValueOper, A: operPlace("a")}},
		{Kind: api.StmtReturn, At: 43},
	}
	lives := []api.Life{{Name: "a", Over: []string{"b", "int"}}, {Name: "b"}}
	params := []api.Field{{Mut: true, Name: "x", Type: deep}, {Name: "y", Type: truth()}}
	return api.Crate{
		Structs: []api.Struct{
			{Pub: true, Name: "S", Lives: []string{"a", "b"}, Fields: []api.Field{{Name: "f", Type: number()}, {Name: "g", Type: deep}}, At: 100},
			{Name: "T", At: 5},
		},
		Funcs: []api.Func{
			{Pub: true, Name: "f", Lives: lives, Params: params, Result: deep, Body: body, At: 9},
			{Name: "g", At: 1},
		},
	}
}

func fullText() string {
	lines := []string{
		"pub struct S<'a, 'b> { f: int, g: &&'mut mut d::S<'a, 'fn> }",
		"struct T { }",
		"pub fn f<'a: 'b + 'int, 'b>(mut x: &&'mut mut d::S<'a, 'fn>, y: bool) -> &&'mut mut d::S<'a, 'fn> {",
		"\tlet mut a: &&'mut mut d::S<'a, 'fn> = g(false);",
		"\tlet b: bool;",
		"\tif b.f {",
		"\t\tx = 2147483647;",
		"\t\tx = &x.f.*;",
		"\t\tx = &mut x;",
		"\t\tx = !true;",
		"\t\tx = x.* + 0;",
		"\t\tx = d::g(1, y.g);",
		"\t\tx = S { f: 7, g: y };",
		"\t\tx = d::S { };",
		"\t} else {",
		"\t\tdrop c;",
		"\t\t{",
		"\t\t}",
		"\t}",
		"\tif true {",
		"\t}",
		"\twhile 3 {",
		"\t\tloop {",
		"\t\t\tbreak;",
		"\t\t}",
		"\t\tcontinue;",
		"\t}",
		"\td::g(a);",
		"\treturn a;",
		"\treturn;",
		"}",
		"fn g() {",
		"}",
	}
	return strings.Join(lines, "\n") + "\n"
}
