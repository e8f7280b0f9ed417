package types_test

import (
	"errors"
	"fmt"
	"reflect"
	"slices"
	"strings"
	"testing"
	"unsafe"

	"usufruct/api"
	"usufruct/fault"
	"usufruct/parse"
	"usufruct/scope"
	"usufruct/sig"
)

func number() api.Type { return api.Type{Kind: api.KindInt} }

func named(name string, lives ...string) api.Type {
	return api.Type{Kind: api.KindStruct, Name: name, Lives: lives}
}

func ref(to api.Type, lives ...string) api.Type {
	return api.Type{Kind: api.KindRef, Lives: lives, Elem: []api.Type{to}}
}

func mutRef(to api.Type, lives ...string) api.Type {
	return api.Type{Kind: api.KindMut, Lives: lives, Elem: []api.Type{to}}
}

func rInt() api.RType { return api.RType{Kind: api.KindInt} }

func rBool() api.RType { return api.RType{Kind: api.KindBool} }

func rNamed(name string, regions ...int) api.RType {
	return api.RType{Kind: api.KindStruct, Name: name, Regions: regions}
}

// rTo is a reference of a Kind; without regions it has no number of its own.
func rTo(kind int, to api.RType, regions ...int) api.RType {
	return api.RType{Kind: kind, Regions: regions, Elem: []api.RType{to}}
}

func rRef(to api.RType, regions ...int) api.RType { return rTo(api.KindRef, to, regions...) }

func rMut(to api.RType, regions ...int) api.RType { return rTo(api.KindMut, to, regions...) }

// times are n members that one makes.
func times[T any](n int, one func(i int) T) []T {
	var l []T
	for i := range n {
		l = append(l, one(i))
	}
	return l
}

func parsed(t *testing.T, text string) api.Crate {
	t.Helper()
	c, err := parse.Crate(text)
	if err != nil {
		t.Fatalf("%q: %v", text, err)
	}
	return c
}

func parsedType(t *testing.T, text string) api.Type {
	t.Helper()
	x, err := parse.Type(text)
	if err != nil {
		t.Fatalf("%q: %v", text, err)
	}
	return x
}

// ownText and depText are the crates k and d of the tests that are written by hand.
const (
	ownText = `
		struct N { }
		struct R<'a> { n: int, r: &'a int }
		struct S<'a, 'b> { p: d::P, q: &'a mut d::T<'a>, r: &'b N, s: R<'b>, b: bool }
		struct V<'a, 'b, 'c> { v: &'b &'b mut S<'b, 'b>, w: d::W<'c, 'a>, x: S<'c, 'a>, y: &'a mut R<'a> }`
	depText = `
		pub struct P { n: int, b: bool }
		pub struct T<'x> { f: &'x int, p: P }
		pub struct W<'x, 'y> { t: &'x mut T<'x>, u: T<'y>, w: &'y P }`
)

// oddSig is a sig that may be, with structs that no crate has that is right.
func oddSig() api.Sig {
	return api.Sig{Name: "o", Structs: []api.Struct{
		{Pub: true, Name: "L", Lives: []string{"a"}, Fields: []api.Field{
			{Name: "out", Type: ref(mutRef(named("M")), "a")},
			{Name: "none", Type: ref(number(), "z")},
			{Name: "again", Type: named("L", "a")},
			{Name: "bare", Type: named("L")},
			{Name: "lost", Type: named("Z")},
			{Name: "few", Type: named("M", "a")},
		}},
		{Pub: true, Name: "M", Lives: []string{"p", "q"}, Fields: []api.Field{{Name: "m", Type: ref(ref(number()), "q")}}},
		{Pub: true, Name: "D", Lives: []string{"a", "b", "a"}, Fields: []api.Field{
			{Name: "f", Type: ref(number(), "a")},
			{Name: "f", Type: number()},
			{Name: "g", Type: named("D", "b", "a", "b")},
			{Name: "h", Type: named("D")},
		}},
	}}
}

// scoped is the scope of the crate k beside d and o.
func scoped(t *testing.T) *scope.Scope {
	t.Helper()
	s, err := scope.New("k", []api.Sig{sig.Of("d", parsed(t, depText)), oddSig()}, parsed(t, ownText))
	if err != nil {
		t.Fatal(err)
	}
	return s
}

// each goes through all that is within v, v as well.
func each(v reflect.Value, tell func(v reflect.Value)) {
	tell(v)
	switch v.Kind() {
	case reflect.Struct:
		for i := range v.NumField() {
			each(v.Field(i), tell)
		}
	case reflect.Slice:
		for i := range v.Len() {
			each(v.Index(i), tell)
		}
	}
}

// cloned shares nothing with v; empty lists become nil, or all empty ones become lists that are not nil.
func cloned(v reflect.Value, hollow bool) reflect.Value {
	out := reflect.New(v.Type()).Elem()
	switch v.Kind() {
	case reflect.Struct:
		for i := range v.NumField() {
			out.Field(i).Set(cloned(v.Field(i), hollow))
		}
	case reflect.Slice:
		if v.Len() > 0 || hollow {
			out.Set(reflect.MakeSlice(v.Type(), v.Len(), v.Len()))
		}
		for i := range v.Len() {
			out.Index(i).Set(cloned(v.Index(i), hollow))
		}
	case reflect.String:
		out.SetString(strings.Clone(v.String()))
	default:
		out.Set(v)
	}
	return out
}

func clone[T any](x T) T { return cloned(reflect.ValueOf(x), false).Interface().(T) }

// hollowed is the same, with lists that are empty, but not nil.
func hollowed[T any](x T) T { return cloned(reflect.ValueOf(x), true).Interface().(T) }

// alike takes nil and empty lists as one.
func alike[T any](a, b T) bool { return reflect.DeepEqual(clone(a), clone(b)) }

// kept asks that a call leaves what it is handed as it was, down to lists that are nil.
func kept[T any](t *testing.T, what string, x T, do func(x T)) {
	t.Helper()
	ahead := fmt.Sprintf("%#v", x)
	do(x)
	if fmt.Sprintf("%#v", x) != ahead {
		t.Errorf("%s: what is handed in has changed", what)
	}
}

// memory is where the lists and the texts within a value have their room, each from its first byte up to behind its last.
func memory(x any) [][2]uintptr {
	var rooms [][2]uintptr
	add := func(from, size uintptr) {
		if size > 0 {
			rooms = append(rooms, [2]uintptr{from, from + size})
		}
	}
	each(reflect.ValueOf(x), func(v reflect.Value) {
		switch v.Kind() {
		case reflect.Slice:
			add(v.Pointer(), uintptr(v.Cap())*v.Type().Elem().Size())
		case reflect.String:
			s := v.String()
			add(uintptr(unsafe.Pointer(unsafe.StringData(s))), uintptr(len(s)))
		}
	})
	return rooms
}

// ownMemory asks that no two lists or texts within all of these share room.
func ownMemory(t *testing.T, what string, l ...any) {
	t.Helper()
	var rooms [][2]uintptr
	for _, x := range l {
		rooms = append(rooms, memory(x)...)
	}
	slices.SortFunc(rooms, func(a, b [2]uintptr) int { return slices.Compare(a[:], b[:]) })
	for i := 1; i < len(rooms); i++ {
		if rooms[i][0] < rooms[i-1][1] {
			t.Fatalf("%s: two share memory", what)
		}
	}
}

// short keeps large things out of what a test tells.
func short(x any) string {
	s := fmt.Sprintf("%+v", x)
	if len(s) > 900 {
		return s[:450] + " .. " + s[len(s)-450:]
	}
	return s
}

// shown is a type as a text, each lifetime a number; it tells all that a text's type has.
func shown(t api.RType) string {
	switch t.Kind {
	case api.KindUnit:
		return "()"
	case api.KindInt:
		return "int"
	case api.KindBool:
		return "bool"
	case api.KindStruct:
		if len(t.Regions) == 0 {
			return t.Name
		}
		return t.Name + "<" + strings.ReplaceAll(strings.Trim(fmt.Sprint(t.Regions), "[]"), " ", ", ") + ">"
	case api.KindMut:
		return fmt.Sprintf("&%d mut %s", t.Regions[0], shown(t.Elem[0]))
	}
	return fmt.Sprintf("&%d %s", t.Regions[0], shown(t.Elem[0]))
}

// isPlain tells whether a text may mean a type but for its numbers, so that shown tells all of it.
func isPlain(t api.RType) bool {
	switch t.Kind {
	case api.KindRef, api.KindMut:
		return t.Name == "" && len(t.Regions) == 1 && len(t.Elem) == 1 && isPlain(t.Elem[0])
	case api.KindStruct:
		return len(t.Elem) == 0
	case api.KindInt, api.KindBool:
		return alike(t, api.RType{Kind: t.Kind})
	}
	return false
}

// isShown asks for a type by its text.
func isShown(t *testing.T, what string, x api.RType, want string) {
	t.Helper()
	if !isPlain(x) || shown(x) != want {
		t.Errorf("%s: %s, not %s", what, short(x), want)
	}
}

// isError asks for an error that is New's of that number and place, and for none of OK.
func isError(t *testing.T, what string, err error, code api.Errno, at int) {
	t.Helper()
	if code == api.OK {
		if err != nil {
			t.Fatalf("%s: error %d at %v", what, fault.Code(err), fault.Path(err))
		}
		return
	}
	var f *api.Fault
	if !errors.As(err, &f) || *f != (api.Fault{Code: code, At: at, Err: code}) {
		t.Fatalf("%s: error %d at %v, not %d at %d alone", what, fault.Code(err), fault.Path(err), code, at)
	}
}
