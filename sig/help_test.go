package sig_test

import (
	"crypto/sha256"
	"fmt"
	"reflect"
	"slices"
	"strings"
	"testing"

	"usufruct/api"
	"usufruct/fault"
	"usufruct/parse"
	"usufruct/sig"
)

func number() api.Type { return api.Type{Kind: api.KindInt} }

func truth() api.Type { return api.Type{Kind: api.KindBool} }

func named(name string, lives ...string) api.Type {
	return api.Type{Kind: api.KindStruct, Name: name, Lives: lives}
}

func ref(to api.Type, lives ...string) api.Type {
	return api.Type{Kind: api.KindRef, Lives: lives, Elem: []api.Type{to}}
}

func mutRef(to api.Type, lives ...string) api.Type {
	return api.Type{Kind: api.KindMut, Lives: lives, Elem: []api.Type{to}}
}

// deep is a type that is n deep.
func deep(n int) api.Type {
	t := number()
	for i := range n - 1 {
		if i%2 == 0 {
			t = ref(t)
		} else {
			t = mutRef(t, "a")
		}
	}
	return t
}

func field(name string, t api.Type) api.Field { return api.Field{Name: name, Type: t} }

func mutParam(name string, t api.Type) api.Field {
	return api.Field{Mut: true, Name: name, Type: t}
}

func structs(l ...api.Struct) api.Sig { return api.Sig{Name: "k", Structs: l} }

func funcs(l ...api.Func) api.Sig { return api.Sig{Name: "k", Funcs: l} }

// ofField, ofParam and ofResult are sigs with a type in the place that they tell.
func ofField(t api.Type) api.Sig {
	return structs(api.Struct{Pub: true, Name: "S", Fields: []api.Field{field("f", t)}})
}

func ofParam(t api.Type) api.Sig {
	return funcs(api.Func{Pub: true, Name: "f", Params: []api.Field{field("x", t)}})
}

func ofResult(t api.Type) api.Sig {
	return funcs(api.Func{Pub: true, Name: "f", Result: t})
}

// times are n members that one makes.
func times[T any](n int, one func(i int) T) []T {
	var l []T
	for i := range n {
		l = append(l, one(i))
	}
	return l
}

func names(n int) []string {
	return times(n, func(i int) string { return fmt.Sprint("n", i) })
}

func someStructs(n int) []api.Struct {
	return times(n, func(i int) api.Struct { return api.Struct{Pub: true, Name: fmt.Sprint("S", i)} })
}

func someFuncs(n int) []api.Func {
	return times(n, func(i int) api.Func { return api.Func{Pub: true, Name: fmt.Sprint("f", i)} })
}

// full has every kind of type and of list, and may be.
func full() api.Sig {
	far := mutRef(ref(named("d::T", "b", "fn"), "mut"))
	return api.Sig{
		Name: "k_9",
		Structs: []api.Struct{
			{Pub: true, Name: "S", Lives: []string{"a", "int"}, Fields: []api.Field{field("f", mutRef(number(), "a")), field("g", truth()), field("h", far)}},
			{Pub: true, Name: "T"},
			{Pub: true, Name: "S", Lives: []string{"a"}, Fields: []api.Field{field("f", named("T"))}},
		},
		Funcs: []api.Func{
			{Pub: true, Name: "f", Lives: []api.Life{{Name: "a", Over: []string{"b", "struct"}}, {Name: "b"}, {Name: "drop", Over: []string{"a"}}}, Params: []api.Field{mutParam("x", named("S", "a")), field("y", ref(number(), "b")), mutParam("z", far)}, Result: named("d::T", "b")},
			{Pub: true, Name: "g"},
			{Pub: true, Name: "h", Params: []api.Field{field("x", truth())}, Result: far},
		},
	}
}

// parsed is the crate of a text.
func parsed(t *testing.T, text string) api.Crate {
	t.Helper()
	c, err := parse.Crate(text)
	if err != nil {
		t.Fatalf("%q: %v", text, err)
	}
	return c
}

// each goes through all that is within v, v as well; path tells fields by their names and members by their places.
func each(v reflect.Value, path string, tell func(path string, v reflect.Value)) {
	tell(path, v)
	switch v.Kind() {
	case reflect.Struct:
		for i := range v.NumField() {
			each(v.Field(i), path+"."+v.Type().Field(i).Name, tell)
		}
	case reflect.Slice:
		for i := range v.Len() {
			each(v.Index(i), fmt.Sprint(path, ".", i), tell)
		}
	}
}

// cloned shares nothing with v; empty lists become nil, or all empty ones become lists that are not nil.
func cloned(v reflect.Value, hollow bool) reflect.Value {
	out := reflect.New(v.Type()).Elem()
	switch v.Kind() {
	case reflect.Struct:
		for i := range v.NumField() {
			out.Field(i).Set(cloned(v.Field(i), hollow))
		}
	case reflect.Slice:
		if v.Len() > 0 || hollow {
			out.Set(reflect.MakeSlice(v.Type(), v.Len(), v.Len()))
		}
		for i := range v.Len() {
			out.Index(i).Set(cloned(v.Index(i), hollow))
		}
	default:
		out.Set(v)
	}
	return out
}

func clone[T any](x T) T { return cloned(reflect.ValueOf(x), false).Interface().(T) }

// hollowed is the same, with lists that are empty, but not nil.
func hollowed[T any](x T) T { return cloned(reflect.ValueOf(x), true).Interface().(T) }

// alike takes nil and empty lists as one.
func alike[T any](a, b T) bool { return reflect.DeepEqual(clone(a), clone(b)) }

// kept asks that a call leaves what it is handed as it was, down to lists that are nil.
func kept[T any](t *testing.T, what string, x T, do func(x T)) {
	t.Helper()
	ahead := fmt.Sprintf("%#v", x)
	do(x)
	if fmt.Sprintf("%#v", x) != ahead {
		t.Errorf("%s: what is handed in has changed", what)
	}
}

// memory is where the lists within a value have their room, each from its first byte up to behind its last.
func memory(x any) [][2]uintptr {
	var rooms [][2]uintptr
	each(reflect.ValueOf(x), "", func(_ string, v reflect.Value) {
		if v.Kind() == reflect.Slice && v.Cap() > 0 {
			from := v.Pointer()
			rooms = append(rooms, [2]uintptr{from, from + uintptr(v.Cap())*v.Type().Elem().Size()})
		}
	})
	return rooms
}

// own asks that no two lists within all of these share room.
func own(t *testing.T, what string, l ...any) {
	t.Helper()
	var rooms [][2]uintptr
	for _, x := range l {
		rooms = append(rooms, memory(x)...)
	}
	slices.SortFunc(rooms, func(a, b [2]uintptr) int { return slices.Compare(a[:], b[:]) })
	for i := 1; i < len(rooms); i++ {
		if rooms[i][0] < rooms[i-1][1] {
			t.Fatalf("%s: two lists share memory", what)
		}
	}
}

// short keeps large things out of what a test tells.
func short(x any) string {
	s := fmt.Sprintf("%+v", x)
	if b, ok := x.([]byte); ok {
		s = fmt.Sprintf("% x", b)
	}
	if len(s) > 600 {
		return s[:300] + " .. " + s[len(s)-300:]
	}
	return s
}

func isError(t *testing.T, what string, err error, code api.Errno) {
	t.Helper()
	if fault.Code(err) != code || !slices.Equal(fault.Path(err), []int{0}) || !fault.Is(err, code) {
		t.Fatalf("%s: error %d at %v, not %d at 0", what, fault.Code(err), fault.Path(err), code)
	}
}

// put is Put of a sig that may be, held against the bytes that the chapter asks for; Get and Hash are asked as well.
func put(t *testing.T, s api.Sig) []byte {
	t.Helper()
	if !sig.May(s) {
		t.Fatalf("12.1: May is false: %s", short(s))
	}
	b, err := sig.Put(s)
	if err != nil {
		t.Fatalf("12.2: Put: %v: %s", err, short(s))
	}
	if want := wantPut(s).bytes; !slices.Equal(b, want) {
		t.Fatalf("12.2: Put of %s: %s, not %s", short(s), short(b), short(want))
	}
	if back := got(t, b); !alike(back, s) {
		t.Fatalf("12.4: Get of Put of %s: %s", short(s), short(back))
	}
	if h, err := sig.Hash(s); err != nil || h != sha256.Sum256(b) {
		t.Fatalf("12.3: Hash of %s: %x, %v", short(s), h, err)
	}
	return b
}

// refused asks that a sig may not be.
func refused(t *testing.T, what string, s api.Sig) {
	t.Helper()
	if sig.May(s) {
		t.Fatalf("12.1: %s: May is true: %s", what, short(s))
	}
	b, err := sig.Put(s)
	isError(t, "12.2: Put: "+what, err, api.ErrArg)
	h, err := sig.Hash(s)
	isError(t, "12.3: Hash: "+what, err, api.ErrArg)
	if len(b) != 0 || h != (api.Hash{}) {
		t.Fatalf("%s: % x, %x beside an error", what, b, h)
	}
}

// got is Get of bytes that a sig has.
func got(t *testing.T, b []byte) api.Sig {
	t.Helper()
	s, err := sig.Get(b)
	if err != nil {
		t.Fatalf("12.3: Get of %s: %v", short(b), err)
	}
	return s
}

// noSig asks that bytes are no sig's.
func noSig(t *testing.T, what string, b []byte) {
	t.Helper()
	s, err := sig.Get(b)
	isError(t, "12.3: Get: "+what, err, api.ErrForm)
	if !reflect.DeepEqual(s, api.Sig{}) {
		t.Fatalf("12.3: Get: %s: %s beside an error", what, short(s))
	}
}

// asked holds Get of any bytes against the other way of telling it.
func asked(t *testing.T, b []byte) {
	t.Helper()
	want, may := wantGet(b)
	if !may {
		noSig(t, "bytes of none", b)
		return
	}
	if s := got(t, b); !alike(s, want) {
		t.Fatalf("12.3: Get of %s: %s, not %s", short(b), short(s), short(want))
	}
}

// joined is bytes that numbers, texts and other bytes have behind each other.
func joined(l ...any) []byte {
	var b []byte
	for _, x := range l {
		switch x := x.(type) {
		case int:
			b = append(b, byte(x))
		case string:
			b = append(b, x...)
		case []byte:
			b = append(b, x...)
		}
	}
	return b
}

// head is what the bytes of the sigs k begin with.
func head() []byte { return joined(4, "USIG", 1, "k") }

func long(n int) string { return strings.Repeat("x", n) }
