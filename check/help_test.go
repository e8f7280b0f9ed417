package check_test

import (
	"errors"
	"fmt"
	"reflect"
	"slices"
	"strings"
	"testing"

	"usufruct/api"
	"usufruct/check"
	"usufruct/fault"
	"usufruct/parse"
	"usufruct/scope"
	"usufruct/sig"
)

// depText and ownText are the crates d and k beside which the bodies of the tests stand.
const (
	depText = `
		pub struct P { n: int, b: bool }
		pub struct T<'x> { f: &'x int, p: P }
		pub struct W<'x, 'y> { t: &'y mut T<'y>, u: T<'x> }
		pub fn take(p: P) { }
		pub fn make(n: int) -> P { return P { n: n, b: true }; }
		pub fn read<'x, 'y>(w: W<'x, 'y>, f: &'x int) -> T<'x> { return T { f: f, p: w.u.p }; }`
	ownText = `
		struct N { }
		struct P { n: int, b: bool }
		struct R<'a> { n: int, r: &'a int }
		struct S<'a> { p: P, q: &'a mut P, r: &'a P, m: &'a mut int, i: int }
		struct D<'a, 'b> { s: &'a S<'a>, t: &'b mut R<'b>, u: S<'b>, w: &'a d::P }
		struct B<'a> { b: bool, c: &'a bool, d: &'a mut bool }
		fn id(x: int) -> int { return x; }
		fn not(b: bool) -> bool { return !b; }
		fn no(p: P) { }
		fn none() { }
		fn two(n: int, b: bool) -> bool { return b; }
		fn see<'a>(p: &'a P) -> &'a int { return &p.*.n; }
		fn touch<'a>(p: &'a mut P) -> &'a mut int { return &mut p.*.n; }
		fn pair(n: int, b: bool) -> P { return P { n: n, b: b }; }
		fn all<'a>(p: P, q: &'a mut P, r: &'a P, n: int) { }`
	// head has a parameter of each kind of type, some Mut and some not.
	head = `
		fn f<'a, 'b: 'a>(x: int, mut y: int, k: bool, mut l: bool, p: P, mut z: P, s: S<'a>, mut v: S<'a>, d: D<'a, 'b>, mut e: D<'a, 'b>,
		r: &'a int, m: &'a mut int, mut o: &'a mut int, rr: &'a &'b P, rm: &'a &'b mut P, mr: &'a mut &'b P, mm: &'a mut &'a mut P,
		mut ro: &'a P, b: B<'a>, t: d::T<'a>, w: d::W<'a, 'b>, c: d::P, mut g: d::P)`
)

// mark stands in a test's text ahead of the statement that is wrong.
const mark = "@"

// times are n members that one makes.
func times[T any](n int, one func(i int) T) []T {
	var l []T
	for i := range n {
		l = append(l, one(i))
	}
	return l
}

func parsed(t *testing.T, text string) api.Crate {
	t.Helper()
	c, err := parse.Crate(text)
	if err != nil {
		t.Fatalf("%s: %v", short(text), err)
	}
	return c
}

// scoped is the crate of a text, and its scope beside d.
func scoped(t *testing.T, text string) (api.Crate, *scope.Scope) {
	t.Helper()
	c := parsed(t, text)
	s, err := scope.New("k", []api.Sig{sig.Of("d", parsed(t, depText))}, c)
	if err != nil {
		t.Fatalf("%s: %d at %v", short(text), fault.Code(err), fault.Path(err))
	}
	return c, s
}

// within is ownText with a function f behind it that has this result and this body.
func within(result, body string) string {
	if result != "" {
		result = " -> " + result
	}
	return ownText + head + result + " { " + body + " }"
}

// last is the function that a text has behind all others.
func last(c api.Crate) api.Func { return c.Funcs[len(c.Funcs)-1] }

// isWrong asks for a body's error at the mark, or for none of OK; of Crate the same, told within the function.
func isWrong(t *testing.T, promise, result, body string, code api.Errno) {
	t.Helper()
	text := within(result, body)
	at := strings.Index(text, mark)
	c, s := scoped(t, strings.Replace(text, mark, "", 1))
	f := last(c)
	if code != api.OK && at < 0 {
		at = f.At
	}
	what := promise + ": " + body
	isError(t, what, check.Func(s, f), code, at)
	err := check.Crate(s, c)
	var want []int
	if code != api.OK {
		want = []int{f.At, at}
	}
	if fault.Code(err) != code || !slices.Equal(fault.Path(err), want) {
		t.Errorf("15.3: %s: of the crate: error %d at %v, not %d at %v", body, fault.Code(err), fault.Path(err), code, want)
	}
}

// wrong is a body, with a mark at the statement that is wrong, and its error; of OK it is right.
type wrong struct {
	body string
	code api.Errno
}

// areWrong asks for each body on its own.
func areWrong(t *testing.T, promise, result string, l []wrong) {
	t.Helper()
	for _, x := range l {
		isWrong(t, promise, result, x.body, x.code)
	}
}

// isError asks for an error that is New's of that number and place, and for none of OK.
func isError(t *testing.T, what string, err error, code api.Errno, at int) {
	t.Helper()
	if code == api.OK {
		if err != nil {
			t.Errorf("%s: error %d at %v", what, fault.Code(err), fault.Path(err))
		}
		return
	}
	var f *api.Fault
	if !errors.As(err, &f) || *f != (api.Fault{Code: code, At: at, Err: code}) {
		t.Errorf("%s: error %d at %v, not %d at %d alone", what, fault.Code(err), fault.Path(err), code, at)
	}
}

// cloned shares nothing with v; empty lists become nil, or all empty ones become lists that are not nil.
func cloned(v reflect.Value, hollow bool) reflect.Value {
	out := reflect.New(v.Type()).Elem()
	switch v.Kind() {
	case reflect.Struct:
		for i := range v.NumField() {
			out.Field(i).Set(cloned(v.Field(i), hollow))
		}
	case reflect.Slice:
		if v.Len() > 0 || hollow {
			out.Set(reflect.MakeSlice(v.Type(), v.Len(), v.Len()))
		}
		for i := range v.Len() {
			out.Index(i).Set(cloned(v.Index(i), hollow))
		}
	case reflect.String:
		out.SetString(strings.Clone(v.String()))
	default:
		out.Set(v)
	}
	return out
}

func clone[T any](x T) T { return cloned(reflect.ValueOf(x), false).Interface().(T) }

// hollowed is the same, with lists that are empty, but not nil.
func hollowed[T any](x T) T { return cloned(reflect.ValueOf(x), true).Interface().(T) }

// kept asks that a call leaves what it is handed as it was, down to lists that are nil.
func kept[T any](t *testing.T, what string, x T, do func(x T)) {
	t.Helper()
	ahead := fmt.Sprintf("%#v", x)
	do(x)
	if fmt.Sprintf("%#v", x) != ahead {
		t.Errorf("%s: what is handed in has changed", what)
	}
}

// short keeps large things out of what a test tells.
func short(x any) string {
	s := fmt.Sprintf("%+v", x)
	if len(s) > 900 {
		return s[:450] + " .. " + s[len(s)-450:]
	}
	return s
}
