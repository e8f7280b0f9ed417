package scope_test

import (
	"errors"
	"fmt"
	"reflect"
	"slices"
	"testing"

	"usufruct/api"
	"usufruct/fault"
	"usufruct/parse"
	"usufruct/scope"
	"usufruct/sig"
)

func number() api.Type { return api.Type{Kind: api.KindInt} }

func truth() api.Type { return api.Type{Kind: api.KindBool} }

func named(name string, lives ...string) api.Type {
	return api.Type{Kind: api.KindStruct, Name: name, Lives: lives}
}

func ref(to api.Type, lives ...string) api.Type {
	return api.Type{Kind: api.KindRef, Lives: lives, Elem: []api.Type{to}}
}

func mutRef(to api.Type, lives ...string) api.Type {
	return api.Type{Kind: api.KindMut, Lives: lives, Elem: []api.Type{to}}
}

func life(name string, over ...string) api.Life { return api.Life{Name: name, Over: over} }

func withLives(l ...api.Life) api.Func { return api.Func{Name: "f", Lives: l} }

// times are n members that one makes.
func times[T any](n int, one func(i int) T) []T {
	var l []T
	for i := range n {
		l = append(l, one(i))
	}
	return l
}

// parsed is the crate of a text.
func parsed(t *testing.T, text string) api.Crate {
	t.Helper()
	c, err := parse.Crate(text)
	if err != nil {
		t.Fatalf("%q: %v", text, err)
	}
	return c
}

func parsedType(t *testing.T, text string) api.Type {
	t.Helper()
	x, err := parse.Type(text)
	if err != nil {
		t.Fatalf("%q: %v", text, err)
	}
	return x
}

// depText is the crate d of the tests that are written by hand.
const depText = `
	struct Q { }
	pub struct P { n: int, b: bool }
	pub struct T<'x> { f: &'x int, p: P }
	pub struct W<'x, 'y> { f: &'x mut T<'x>, g: T<'y> }
	fn q(x: Q) { }
	pub fn g<'x: 'y, 'y>(a: T<'x>, mut b: &'y mut bool) -> &'x T<'y> { loop { } }
	pub fn h() { }`

func deps(t *testing.T) []api.Sig {
	t.Helper()
	return []api.Sig{sig.Of("d", parsed(t, depText)), sig.Of("e", parsed(t, "pub struct E { } pub fn g(x: E) { }"))}
}

// scoped is the scope of a text that is right, in the crate k beside d and e.
func scoped(t *testing.T, text string) (api.Crate, *scope.Scope) {
	t.Helper()
	c := parsed(t, text)
	s, err := scope.New("k", deps(t), c)
	if err != nil || s == nil {
		t.Fatalf("13.4: %q: %v", text, err)
	}
	return c, s
}

// each goes through all that is within v, v as well.
func each(v reflect.Value, tell func(v reflect.Value)) {
	tell(v)
	switch v.Kind() {
	case reflect.Struct:
		for i := range v.NumField() {
			each(v.Field(i), tell)
		}
	case reflect.Slice:
		for i := range v.Len() {
			each(v.Index(i), tell)
		}
	}
}

// cloned shares nothing with v; empty lists become nil, or all empty ones become lists that are not nil.
func cloned(v reflect.Value, hollow bool) reflect.Value {
	out := reflect.New(v.Type()).Elem()
	switch v.Kind() {
	case reflect.Struct:
		for i := range v.NumField() {
			out.Field(i).Set(cloned(v.Field(i), hollow))
		}
	case reflect.Slice:
		if v.Len() > 0 || hollow {
			out.Set(reflect.MakeSlice(v.Type(), v.Len(), v.Len()))
		}
		for i := range v.Len() {
			out.Index(i).Set(cloned(v.Index(i), hollow))
		}
	default:
		out.Set(v)
	}
	return out
}

func clone[T any](x T) T { return cloned(reflect.ValueOf(x), false).Interface().(T) }

// hollowed is the same, with lists that are empty, but not nil.
func hollowed[T any](x T) T { return cloned(reflect.ValueOf(x), true).Interface().(T) }

// alike takes nil and empty lists as one.
func alike[T any](a, b T) bool { return reflect.DeepEqual(clone(a), clone(b)) }

// spoil changes all texts, numbers and lists within what x points to.
func spoil[T any](x *T) {
	each(reflect.ValueOf(x).Elem(), func(v reflect.Value) {
		switch v.Kind() {
		case reflect.Int:
			v.SetInt(v.Int() + 1)
		case reflect.Bool:
			v.SetBool(!v.Bool())
		case reflect.String:
			v.SetString("spoilt")
		}
	})
}

// kept asks that a call leaves what it is handed as it was, down to lists that are nil.
func kept[T any](t *testing.T, what string, x T, do func(x T)) {
	t.Helper()
	ahead := fmt.Sprintf("%#v", x)
	do(x)
	if fmt.Sprintf("%#v", x) != ahead {
		t.Errorf("%s: what is handed in has changed", what)
	}
}

// memory is where the lists within a value have their room, each from its first byte up to behind its last.
func memory(x any) [][2]uintptr {
	var rooms [][2]uintptr
	each(reflect.ValueOf(x), func(v reflect.Value) {
		if v.Kind() == reflect.Slice && v.Cap() > 0 {
			from := v.Pointer()
			rooms = append(rooms, [2]uintptr{from, from + uintptr(v.Cap())*v.Type().Elem().Size()})
		}
	})
	return rooms
}

// own asks that no two lists within all of these share room.
func own(t *testing.T, what string, l ...any) {
	t.Helper()
	var rooms [][2]uintptr
	for _, x := range l {
		rooms = append(rooms, memory(x)...)
	}
	slices.SortFunc(rooms, func(a, b [2]uintptr) int { return slices.Compare(a[:], b[:]) })
	for i := 1; i < len(rooms); i++ {
		if rooms[i][0] < rooms[i-1][1] {
			t.Fatalf("%s: two lists share memory", what)
		}
	}
}

// short keeps large things out of what a test tells.
func short(x any) string {
	s := fmt.Sprintf("%+v", x)
	if len(s) > 900 {
		return s[:450] + " .. " + s[len(s)-450:]
	}
	return s
}

// isError asks for an error that is New's of that number and place, and for none of OK.
func isError(t *testing.T, what string, err error, code api.Errno, at int) {
	t.Helper()
	if code == api.OK {
		if err != nil {
			t.Fatalf("%s: error %d at %v", what, fault.Code(err), fault.Path(err))
		}
		return
	}
	var f *api.Fault
	if !errors.As(err, &f) || *f != (api.Fault{Code: code, At: at, Err: code}) {
		t.Fatalf("%s: error %d at %v, not %d at %d alone", what, fault.Code(err), fault.Path(err), code, at)
	}
}

// made is New, held against the other way of telling it; nil where there is an error.
func made(t *testing.T, name string, deps []api.Sig, c api.Crate) *scope.Scope {
	t.Helper()
	s, err := scope.New(name, deps, c)
	code, at := wantNew(name, deps, c)
	isError(t, "13.4: New of "+short(c)+" beside "+short(deps), err, code, at)
	if (s == nil) != (code != api.OK) {
		t.Fatalf("13.4: error %d, and a scope that is nil: %t", code, s == nil)
	}
	return s
}

// asked holds all names of a scope, and those of others, against the other way of telling them.
func asked(t *testing.T, s *scope.Scope, w want, names []string) {
	t.Helper()
	for _, name := range names {
		x, is := s.Struct(name)
		if wantX, wantIs := w.structOf(name); is != wantIs || !alike(x, wantX) {
			t.Fatalf("13.1: Struct(%q): %t, %s, not %t, %s", name, is, short(x), wantIs, short(wantX))
		}
		f, is := s.Func(name)
		if wantF, wantIs := w.funcOf(name); is != wantIs || !alike(f, wantF) {
			t.Fatalf("13.1: Func(%q): %t, %s, not %t, %s", name, is, short(f), wantIs, short(wantF))
		}
	}
}

// typed holds Type against the other way of telling it.
func typed(t *testing.T, s *scope.Scope, w want, x api.Type, lives []string, open bool) api.Errno {
	t.Helper()
	code := w.typeCode(x, lives, open)
	isError(t, fmt.Sprintf("13.3: Type(%s, %v, %t)", short(x), lives, open), s.Type(x, lives, open), code, 0)
	return code
}
