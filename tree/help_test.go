package tree_test

import (
	"fmt"
	"math/rand"
	"reflect"
	"strings"
	"testing"

	"usufruct/api"
)

func number() api.Type { return api.Type{Kind: api.KindInt} }

func truth() api.Type { return api.Type{Kind: api.KindBool} }

func named(name string, lives ...string) api.Type {
	return api.Type{Kind: api.KindStruct, Name: name, Lives: lives}
}

func ref(kind int, to api.Type, lives ...string) api.Type {
	return api.Type{Kind: kind, Lives: lives, Elem: []api.Type{to}}
}

func place(name string, path ...string) api.Place { return api.Place{Name: name, Path: path} }

func operPlace(name string, path ...string) api.Oper {
	return api.Oper{Kind: api.OperPlace, Place: place(name, path...)}
}

func operInt(n int) api.Oper { return api.Oper{Kind: api.OperInt, N: n} }

func operBool(n int) api.Oper { return api.Oper{Kind: api.OperBool, N: n} }

func let(name string) api.Stmt { return api.Stmt{Kind: api.StmtLet, Name: name, Type: number()} }

func set(v api.Value) api.Stmt {
	return api.Stmt{Kind: api.StmtSet, Place: place("x"), Value: v}
}

func call(name string, args ...api.Oper) api.Value {
	return api.Value{Kind: api.ValueCall, Name: name, Args: args}
}

func block(l ...api.Stmt) api.Stmt { return api.Stmt{Kind: api.StmtBlock, Then: l} }

// inBody is a crate of a function with a body.
func inBody(l ...api.Stmt) api.Crate {
	return api.Crate{Funcs: []api.Func{{Name: "f", Body: l}}}
}

// full has every Kind that there is, and may be.
func full() api.Crate {
	deep := ref(api.KindRef, ref(api.KindMut, named("d::S", "a", "fn"), "mut"))
	values := []api.Value{
		{Kind: api.ValueOper, A: operInt(api.MaxInt)},
		{Kind: api.ValueRef, Place: place("x", "f", "*")},
		{Kind: api.ValueMut, Place: place("x")},
		{Kind: api.ValueNot, A: operBool(1)},
		{Kind: api.ValueOp, Op: api.OpAdd, A: operPlace("x", "*"), B: operInt(0)},
		{Kind: api.ValueOp, Op: api.OpSame, A: operBool(0), B: operPlace("y")},
		call("d::g", operInt(1), operPlace("y", "g")),
		call("g"),
		{Kind: api.ValueMake, Name: "S", Names: []string{"f", "g"}, Args: []api.Oper{operInt(7), operPlace("y")}},
		{Kind: api.ValueMake, Name: "d::S"},
	}
	var sets []api.Stmt
	for i, v := range values {
		s := set(v)
		s.At = 20 + i
		sets = append(sets, s)
	}
	body := []api.Stmt{
		{Kind: api.StmtLet, At: 11, Mut: true, Name: "a", Type: deep, Has: true, Value: call("g", operBool(0))},
		{Kind: api.StmtLet, At: 12, Name: "b", Type: truth()},
		{Kind: api.StmtIf, At: 13, Cond: operPlace("b", "f"), Then: sets, Has: true, Else: []api.Stmt{let("c"), block()}},
		{Kind: api.StmtIf, At: 14, Cond: operBool(1)},
		{Kind: api.StmtWhile, At: 15, Cond: operInt(3), Then: []api.Stmt{
			{Kind: api.StmtLoop, At: 16, Then: []api.Stmt{let("a"), {Kind: api.StmtBreak, At: 17}}},
			{Kind: api.StmtContinue, At: 18},
		}},
		{Kind: api.StmtCall, At: 40, Value: call("d::g", operPlace("a"))},
		{Kind: api.StmtDrop, At: 41, Place: place("a", "*", "f")},
		{Kind: api.StmtReturn, At: 42, Has: true, Value: values[0]},
		{Kind: api.StmtReturn, At: 43},
	}
	return api.Crate{
		Structs: []api.Struct{
			{Pub: true, Name: "S", Lives: []string{"a", "b"}, Fields: []api.Field{{Name: "f", Type: number()}, {Name: "g", Type: deep}}, At: 1},
			{Name: "T"},
		},
		Funcs: []api.Func{
			{Pub: true, Name: "f", Lives: []api.Life{{Name: "a", Over: []string{"b", "int"}}, {Name: "b"}}, Params: []api.Field{{Mut: true, Name: "x", Type: deep}, {Name: "y", Type: truth()}}, Result: deep, Body: body, At: 5},
			{Name: "g", At: 90},
		},
	}
}

// each goes through all that is within v, v as well, from the outside to the inside; path tells fields by their names and members by their places.
func each(v reflect.Value, path string, tell func(path string, v reflect.Value)) {
	tell(path, v)
	switch v.Kind() {
	case reflect.Struct:
		for i := range v.NumField() {
			each(v.Field(i), path+"."+v.Type().Field(i).Name, tell)
		}
	case reflect.Slice:
		for i := range v.Len() {
			each(v.Index(i), fmt.Sprint(path, ".", i), tell)
		}
	}
}

func eachOf(c *api.Crate, tell func(path string, v reflect.Value)) {
	each(reflect.ValueOf(c).Elem(), "", tell)
}

// stuff gives all within v values that are not zero, unlike each other where they can be, whatever Kinds there are; deep is how many times what is within itself may be so.
func stuff(v reflect.Value, deep int, next *int) {
	*next++
	switch v.Kind() {
	case reflect.Int:
		v.SetInt(int64(*next))
	case reflect.Bool:
		v.SetBool(true)
	case reflect.String:
		v.SetString(fmt.Sprint("t", *next))
	case reflect.Struct:
		for i := range v.NumField() {
			stuff(v.Field(i), deep, next)
		}
	case reflect.Slice:
		if within := v.Type().Elem(); within == reflect.TypeFor[api.Stmt]() || within == reflect.TypeFor[api.Type]() {
			deep--
		}
		if deep < 0 {
			return
		}
		v.Set(reflect.MakeSlice(v.Type(), 2, 3))
		for i := range v.Len() {
			stuff(v.Index(i), deep, next)
		}
	}
}

// stuffed has something in every field that there is.
func stuffed() api.Crate {
	var c api.Crate
	next := 0
	stuff(reflect.ValueOf(&c).Elem(), 2, &next)
	return c
}

// cloned shares nothing with v; empty lists become nil, or all empty ones become lists that are not nil.
func cloned(v reflect.Value, hollow bool) reflect.Value {
	out := reflect.New(v.Type()).Elem()
	switch v.Kind() {
	case reflect.Struct:
		for i := range v.NumField() {
			out.Field(i).Set(cloned(v.Field(i), hollow))
		}
	case reflect.Slice:
		if v.Len() > 0 || hollow {
			out.Set(reflect.MakeSlice(v.Type(), v.Len(), v.Len()))
		}
		for i := range v.Len() {
			out.Index(i).Set(cloned(v.Index(i), hollow))
		}
	case reflect.String:
		out.SetString(strings.Clone(v.String()))
	default:
		out.Set(v)
	}
	return out
}

func clone[T any](x T) T { return cloned(reflect.ValueOf(x), false).Interface().(T) }

// hollowed is the same, with lists that are empty, but not nil.
func hollowed[T any](x T) T { return cloned(reflect.ValueOf(x), true).Interface().(T) }

// alike is what Same ought to answer, found in another way.
func alike[T any](a, b T) bool { return reflect.DeepEqual(clone(a), clone(b)) }

// kept asks that a call leaves what it is handed as it was, down to lists that are nil.
func kept[T any](t *testing.T, what string, x T, do func(x T)) {
	t.Helper()
	ahead := fmt.Sprintf("%#v", x)
	do(x)
	if fmt.Sprintf("%#v", x) != ahead {
		t.Errorf("%s: what is handed in has changed", what)
	}
}

// spoil changes one thing somewhere: most crates that it is given may not be behind it.
func spoil(r *rand.Rand, c *api.Crate) {
	var spots []reflect.Value
	eachOf(c, func(path string, v reflect.Value) {
		if v.Kind() != reflect.Struct {
			spots = append(spots, v)
		}
	})
	switch v := spots[r.Intn(len(spots))]; v.Kind() {
	case reflect.Int:
		v.SetInt(int64(r.Intn(14) - 1))
	case reflect.Bool:
		v.SetBool(!v.Bool())
	case reflect.String:
		texts := []string{"", "a", "x", "let", "*", "d::g", "a::b::c", "1"}
		v.SetString(texts[r.Intn(len(texts))])
	case reflect.Slice:
		if v.Len() > 0 {
			v.Set(v.Slice(0, r.Intn(v.Len())))
		}
	}
}
