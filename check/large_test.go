package check_test

import (
	"testing"

	"usufruct/api"
	"usufruct/check"
	"usufruct/scope"
)

const many = 1 << 16

// nested is a statement of that kind within itself, n deep, with a statement behind each of the inner ones.
func nested(kind, n int, inner []api.Stmt) []api.Stmt {
	for range n {
		inner = []api.Stmt{{Kind: kind, Cond: api.Oper{Kind: api.OperBool}, Then: inner}, {Kind: api.StmtBlock}}
	}
	return inner
}

func TestDeepBodies(t *testing.T) {
	_, s := scoped(t, "")
	for _, kind := range []int{api.StmtIf, api.StmtWhile, api.StmtBlock} {
		f := api.Func{At: 1, Body: nested(kind, many-2, nil)}
		isError(t, "15.2: deep", check.Func(s, f), api.OK, 0)
		if !check.Goes(f.Body) {
			t.Errorf("15.1: %d deep: does not go on", kind)
		}
		f.Body = nested(kind, many-2, []api.Stmt{{Kind: api.StmtDrop, At: 5}})
		isError(t, "15.2: deep within", check.Func(s, f), api.ErrName, 5)
	}
	stop := api.Stmt{Kind: api.StmtBreak}
	loops := []api.Stmt{stop}
	for range many - 2 {
		loops = []api.Stmt{{Kind: api.StmtLoop, Then: loops}, stop}
	}
	if check.Goes(loops) || !check.Goes(loops[:1]) {
		t.Error("15.1: deep loops")
	}
	isError(t, "15.2: deep loops", check.Func(s, api.Func{Body: loops[:1]}), api.OK, 0)
}

func TestWideBodies(t *testing.T) {
	_, s := scoped(t, "")
	name := func(i int) string { return "n" + string(rune(0x100+i%0x400)) + string(rune(0x100+i/0x400)) }
	var l []api.Stmt
	for i := range 4 * many {
		l = append(l, api.Stmt{Kind: api.StmtLet, At: i, Name: name(i), Type: number(), Has: true, Value: api.Value{Kind: api.ValueOper, A: api.Oper{Kind: api.OperInt}}})
	}
	f := api.Func{Body: l}
	isError(t, "15.2: many lets", check.Func(s, f), api.OK, 0)
	l[len(l)-1].Name = name(0)
	isError(t, "15.2: many lets, the last one twice", check.Func(s, f), api.ErrTwice, len(l)-1)
	if !check.Goes(l) {
		t.Error("15.1: many lets: do not go on")
	}
}

// Types and paths may be as deep as blocks.
func TestDeepTypes(t *testing.T) {
	_, s := scoped(t, "")
	typ := number()
	var path []string
	for range many - 1 {
		typ = refTo(api.KindMut, typ)
		path = append(path, "*")
	}
	use := func(path []string, v api.Value) api.Func {
		return api.Func{Params: []api.Field{{Name: "x", Type: typ, Mut: true}}, Body: []api.Stmt{
			{Kind: api.StmtLet, Name: "y", Type: typ, Mut: true},
			{Kind: api.StmtSet, Place: api.Place{Name: "y"}, Value: api.Value{Kind: api.ValueOper, A: api.Oper{Kind: api.OperPlace, Place: api.Place{Name: "x"}}}},
			{Kind: api.StmtSet, At: 2, Place: api.Place{Name: "x", Path: path}, Value: v},
		}}
	}
	one := api.Value{Kind: api.ValueOper, A: api.Oper{Kind: api.OperInt}}
	isError(t, "15.2: a deep type", check.Func(s, use(path, one)), api.OK, 0)
	isError(t, "15.2: a deep type, one step less", check.Func(s, use(path[1:], one)), api.ErrType, 2)
	isError(t, "15.2: a deep type, one step more", check.Func(s, use(append(path, "*"), one)), api.ErrType, 2)
}

// A function that is called again and again is not gone through anew each time.
func TestManyCalls(t *testing.T) {
	call := func(name string) api.Stmt {
		return api.Stmt{Kind: api.StmtCall, Value: api.Value{Kind: api.ValueCall, Name: name}}
	}
	body := func(name string) []api.Stmt {
		return times(api.MaxStmts, func(int) api.Stmt { return call(name) })
	}
	c := api.Crate{Funcs: times(20, func(i int) api.Func {
		return api.Func{Name: string(rune('a' + i)), At: i, Body: body("a")}
	})}
	s, err := scope.New("k", nil, c)
	if err != nil {
		t.Fatal(err)
	}
	isError(t, "15.3: many calls", check.Crate(s, c), api.OK, 0)
}
