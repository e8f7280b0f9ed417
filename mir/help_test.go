package mir_test

import (
	"fmt"
	"math"
	"reflect"
	"slices"
	"strings"
	"testing"
	"unsafe"

	"usufruct/api"
)

func path(local int, steps ...string) api.Path { return api.Path{Local: local, Steps: steps} }

func mInt(n int) api.MOper { return api.MOper{Kind: api.MInt, N: n} }

func mBool(n int) api.MOper { return api.MOper{Kind: api.MBool, N: n} }

func mCopy(local int, steps ...string) api.MOper {
	return api.MOper{Kind: api.MCopy, Path: path(local, steps...)}
}

func mMove(local int, steps ...string) api.MOper {
	return api.MOper{Kind: api.MMove, Path: path(local, steps...)}
}

func value(kind int, a api.MOper) api.MValue { return api.MValue{Kind: kind, A: a} }

func valueOp(op int, a, b api.MOper) api.MValue {
	return api.MValue{Kind: api.ValueOp, Op: op, A: a, B: b}
}

// loan is a reference's value of a Kind.
func loan(kind int, p api.Path, region int) api.MValue {
	return api.MValue{Kind: kind, Path: p, Region: region}
}

// call is a call, or a struct's value.
func call(kind int, name string, regions []int, args ...api.MOper) api.MValue {
	return api.MValue{Kind: kind, Name: name, Regions: regions, Args: args}
}

func set(to api.Path, v api.MValue) api.Inst {
	return api.Inst{Kind: api.InstSet, Has: true, To: to, Value: v}
}

// only is a value that is put nowhere.
func only(v api.MValue) api.Inst { return api.Inst{Kind: api.InstSet, Value: v} }

func dead(local int) api.Inst { return api.Inst{Kind: api.InstDead, To: path(local)} }

func drop(p api.Path) api.Inst { return api.Inst{Kind: api.InstDrop, To: p} }

func branch(o api.MOper) api.Inst { return api.Inst{Kind: api.InstIf, Value: api.MValue{A: o}} }

func rInt() api.RType { return api.RType{Kind: api.KindInt} }

func rBool() api.RType { return api.RType{Kind: api.KindBool} }

func rNamed(name string, regions ...int) api.RType {
	return api.RType{Kind: api.KindStruct, Name: name, Regions: regions}
}

// rTo is a reference of a Kind; without regions it has no number of its own.
func rTo(kind int, to api.RType, regions ...int) api.RType {
	return api.RType{Kind: kind, Regions: regions, Elem: []api.RType{to}}
}

// times are n members that one makes.
func times[T any](n int, one func(i int) T) []T {
	var l []T
	for i := range n {
		l = append(l, one(i))
	}
	return l
}

// of is a function of these points and an InstEnd, with 4 locals, 6 regions, 2 of them its own; each point's Next is the one behind it, of an InstIf that and the first one.
func of(l ...api.Inst) api.Mir {
	m := api.Mir{At: 7, Free: 2, Regions: 6, Known: [][2]int{{0, 1}}}
	m.Locals = []api.Local{
		{},
		{Name: "p", Type: rTo(api.KindMut, rTo(api.KindRef, rNamed("S", 1, 0), 0), 5), Param: true},
		{Name: "x", Type: rNamed("d::T", 2, 3, 4)},
		{Name: "n", Type: rInt()},
	}
	for i, x := range l {
		x.At = 10 + i
		x.Next = []int{i + 1}
		if x.Kind == api.InstIf {
			x.Next = []int{i + 1, 0}
		}
		m.Code = append(m.Code, x)
	}
	m.Code = append(m.Code, api.Inst{Kind: api.InstEnd, At: 99})
	return m
}

// full has each kind of instruction, value, operand and type, and may be.
func full() api.Mir {
	m := of(
		set(path(0), value(api.ValueOper, mInt(api.MaxInt))),
		set(path(1, "*", "f"), loan(api.ValueRef, path(2, "f", "*"), 5)),
		set(path(2), loan(api.ValueMut, path(3), 0)),
		set(path(3, "g"), value(api.ValueNot, mBool(1))),
		set(path(0), valueOp(api.OpAdd, mCopy(1, "*"), mInt(0))),
		set(path(0), valueOp(api.OpSame, mBool(0), mMove(2, "f"))),
		only(call(api.ValueCall, "d::g", []int{3, 4, 0}, mInt(1), mMove(2), mCopy(3))),
		set(path(2, "h"), call(api.ValueMake, "S", []int{5, 1}, mMove(1, "g"), mBool(0))),
		set(path(2), call(api.ValueCall, "g", nil)),
		set(path(2), call(api.ValueMake, "d::S", nil)),
		branch(mCopy(3, "f")),
		branch(mMove(2)),
		branch(mInt(0)),
		branch(mBool(1)),
		dead(3),
		drop(path(2, "*")),
		api.Inst{Kind: api.InstGo},
	)
	m.Known = [][2]int{{0, 1}, {1, 0}, {1, 1}}
	m.Locals = append(m.Locals, api.Local{Name: "b", Type: rBool()}, api.Local{Type: rTo(api.KindRef, api.RType{}, 3)})
	return m
}

// each goes through all that is within v, v as well, from the outside to the inside; path tells fields by their names and members by their places.
func each(v reflect.Value, path string, tell func(path string, v reflect.Value)) {
	tell(path, v)
	switch v.Kind() {
	case reflect.Struct:
		for i := range v.NumField() {
			each(v.Field(i), path+"."+v.Type().Field(i).Name, tell)
		}
	case reflect.Slice, reflect.Array:
		for i := range v.Len() {
			each(v.Index(i), fmt.Sprint(path, ".", i), tell)
		}
	}
}

// spots are the paths of all that is within x of these kinds.
func spots[T any](x T, kinds ...reflect.Kind) []string {
	var l []string
	each(reflect.ValueOf(&x).Elem(), "", func(path string, v reflect.Value) {
		if slices.Contains(kinds, v.Kind()) {
			l = append(l, path)
		}
	})
	return l
}

// with is a copy of x in which what stands at a path was changed.
func with[T any](x T, path string, change func(v reflect.Value)) T {
	x = clone(x)
	each(reflect.ValueOf(&x).Elem(), "", func(p string, v reflect.Value) {
		if p == path {
			change(v)
		}
	})
	return x
}

// numbers are those at the ends of what may be, and the two that are not.
func numbers(end int) []int {
	return []int{math.MinInt, -1 << 32, -end, -1, 0, end - 1, end, end + 1, 1 << 32, 1<<32 + end - 1, math.MaxInt}
}

// cloned shares nothing with v; empty lists become nil, or all empty ones become lists that are not nil.
func cloned(v reflect.Value, hollow bool) reflect.Value {
	out := reflect.New(v.Type()).Elem()
	switch v.Kind() {
	case reflect.Struct:
		for i := range v.NumField() {
			out.Field(i).Set(cloned(v.Field(i), hollow))
		}
	case reflect.Slice:
		if v.Len() > 0 || hollow {
			out.Set(reflect.MakeSlice(v.Type(), v.Len(), v.Len()))
		}
		for i := range v.Len() {
			out.Index(i).Set(cloned(v.Index(i), hollow))
		}
	case reflect.String:
		out.SetString(strings.Clone(v.String()))
	default:
		out.Set(v)
	}
	return out
}

func clone[T any](x T) T { return cloned(reflect.ValueOf(x), false).Interface().(T) }

// hollowed is the same, with lists that are empty, but not nil.
func hollowed[T any](x T) T { return cloned(reflect.ValueOf(x), true).Interface().(T) }

// alike takes nil and empty lists as one.
func alike[T any](a, b T) bool { return reflect.DeepEqual(clone(a), clone(b)) }

// kept asks that a call leaves what it is handed as it was, down to lists that are nil.
func kept[T any](t *testing.T, what string, x T, do func(x T)) {
	t.Helper()
	ahead := fmt.Sprintf("%#v", x)
	do(x)
	if fmt.Sprintf("%#v", x) != ahead {
		t.Errorf("%s: what is handed in has changed", what)
	}
}

// memory is where the lists and the texts within a value have their room, each from its first byte up to behind its last.
func memory(x any) [][2]uintptr {
	var rooms [][2]uintptr
	add := func(from, size uintptr) {
		if size > 0 {
			rooms = append(rooms, [2]uintptr{from, from + size})
		}
	}
	each(reflect.ValueOf(x), "", func(_ string, v reflect.Value) {
		switch v.Kind() {
		case reflect.Slice:
			add(v.Pointer(), uintptr(v.Cap())*v.Type().Elem().Size())
		case reflect.String:
			s := v.String()
			add(uintptr(unsafe.Pointer(unsafe.StringData(s))), uintptr(len(s)))
		}
	})
	return rooms
}

// ownMemory asks that no two lists or texts within all of these share room.
func ownMemory(t *testing.T, what string, l ...any) {
	t.Helper()
	var rooms [][2]uintptr
	for _, x := range l {
		rooms = append(rooms, memory(x)...)
	}
	slices.SortFunc(rooms, func(a, b [2]uintptr) int { return slices.Compare(a[:], b[:]) })
	for i := 1; i < len(rooms); i++ {
		if rooms[i][0] < rooms[i-1][1] {
			t.Fatalf("%s: two share memory", what)
		}
	}
}

// short keeps large things out of what a test tells.
func short(x any) string {
	s := fmt.Sprintf("%+v", x)
	if len(s) > 900 {
		return s[:450] + " .. " + s[len(s)-450:]
	}
	return s
}
