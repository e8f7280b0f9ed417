package scope_test

import (
	"math"
	"testing"

	"usufruct/api"
	"usufruct/scope"
)

// 13.3

const typesText = "struct S { } pub struct R<'a> { f: &'a int } struct V<'a, 'b> { f: &'a R<'a>, g: d::W<'a, 'b> } fn F() { }"

func TestType(t *testing.T) {
	_, s := scoped(t, typesText)
	for _, x := range []struct {
		text         string
		closed, open api.Errno
	}{
		{"int", api.OK, api.OK},
		{"bool", api.OK, api.OK},

		{"S", api.OK, api.OK},
		{"R<'a>", api.OK, api.OK},
		{"R<'b>", api.OK, api.OK},
		{"V<'a, 'b>", api.OK, api.OK},
		{"V<'b, 'b>", api.OK, api.OK},
		{"d::P", api.OK, api.OK},
		{"d::T<'a>", api.OK, api.OK},
		{"d::W<'b, 'a>", api.OK, api.OK},
		{"e::E", api.OK, api.OK},

		// left out
		{"R", api.ErrArgs, api.OK},
		{"V", api.ErrArgs, api.OK},
		{"d::T", api.ErrArgs, api.OK},
		{"d::W", api.ErrArgs, api.OK},
		{"&int", api.ErrLife, api.OK},
		{"&mut bool", api.ErrLife, api.OK},
		{"&'a &int", api.ErrLife, api.OK},
		{"&&'a int", api.ErrLife, api.OK},
		{"&mut &&mut S", api.ErrLife, api.OK},
		{"&'a R", api.ErrArgs, api.OK},
		{"&R<'a>", api.ErrLife, api.OK},

		// no such struct
		{"U", api.ErrName, api.ErrName},
		{"F", api.ErrName, api.ErrName},
		{"k::S", api.ErrName, api.ErrName},
		{"d::S", api.ErrName, api.ErrName},
		{"d::Q", api.ErrName, api.ErrName},
		{"d::g", api.ErrName, api.ErrName},
		{"P", api.ErrName, api.ErrName},
		{"z::P", api.ErrName, api.ErrName},
		{"&'a U", api.ErrName, api.ErrName},
		{"&'a mut &'b d::Q", api.ErrName, api.ErrName},

		// too few and too many
		{"S<'a>", api.ErrArgs, api.ErrArgs},
		{"R<'a, 'b>", api.ErrArgs, api.ErrArgs},
		{"V<'a>", api.ErrArgs, api.ErrArgs},
		{"V<'a, 'b, 'a>", api.ErrArgs, api.ErrArgs},
		{"d::P<'a>", api.ErrArgs, api.ErrArgs},
		{"d::W<'a>", api.ErrArgs, api.ErrArgs},
		{"&'a R<'a, 'a>", api.ErrArgs, api.ErrArgs},

		// lifetimes that are not there
		{"R<'z>", api.ErrLife, api.ErrLife},
		{"V<'a, 'z>", api.ErrLife, api.ErrLife},
		{"V<'z, 'b>", api.ErrLife, api.ErrLife},
		{"d::T<'x>", api.ErrLife, api.ErrLife},
		{"&'z int", api.ErrLife, api.ErrLife},
		{"&'z mut S", api.ErrLife, api.ErrLife},
		{"&'a &'z int", api.ErrLife, api.ErrLife},
		{"&'a mut &'b R<'z>", api.ErrLife, api.ErrLife},

		// wrong at several places
		{"U<'z>", api.ErrName, api.ErrName},
		{"R<'z, 'z>", api.ErrArgs, api.ErrArgs},
		{"S<'z>", api.ErrArgs, api.ErrArgs},
		{"&'z U", api.ErrLife, api.ErrLife},
		{"&U", api.ErrLife, api.ErrName},
		{"&'z R<'a, 'b>", api.ErrLife, api.ErrLife},
		{"&R<'a, 'b>", api.ErrLife, api.ErrArgs},
		{"&R", api.ErrLife, api.OK},
		{"&'a &U", api.ErrLife, api.ErrName},
		{"&'a &'z U", api.ErrLife, api.ErrLife},
		{"&&'z U", api.ErrLife, api.ErrLife},
		{"&'a &'b S<'z>", api.ErrArgs, api.ErrArgs},

		// well is not asked
		{"&'a &'b int", api.OK, api.OK},
		{"&'b mut &'a V<'a, 'b>", api.OK, api.OK},
	} {
		y := parsedType(t, x.text)
		lives := []string{"a", "b"}
		isError(t, "13.3: "+x.text, s.Type(y, lives, false), x.closed, 0)
		isError(t, "13.3: open: "+x.text, s.Type(y, lives, true), x.open, 0)
	}
}

func TestTypeOfKindsThatMayNotStand(t *testing.T) {
	_, s := scoped(t, typesText)
	lives := []string{"a"}
	none := api.Type{}
	for _, x := range []struct {
		t            api.Type
		closed, open api.Errno
	}{
		{none, api.ErrType, api.ErrType},
		{api.Type{Name: "S", Lives: []string{"a"}, Elem: []api.Type{number()}}, api.ErrType, api.ErrType},
		{ref(none, "a"), api.ErrType, api.ErrType},
		{mutRef(none, "a"), api.ErrType, api.ErrType},
		{ref(mutRef(ref(none, "a"), "a"), "a"), api.ErrType, api.ErrType},
		{ref(none), api.ErrLife, api.ErrType},
		{ref(none, "z"), api.ErrLife, api.ErrLife},
		{ref(ref(none), "a"), api.ErrLife, api.ErrType},

		{api.Type{Kind: 6}, api.ErrType, api.ErrType},
		{api.Type{Kind: -1}, api.ErrType, api.ErrType},
		{api.Type{Kind: math.MaxInt}, api.ErrType, api.ErrType},
		{api.Type{Kind: math.MinInt}, api.ErrType, api.ErrType},
		{api.Type{Kind: 6, Name: "S", Lives: []string{"z"}, Elem: []api.Type{number()}}, api.ErrType, api.ErrType},
		{ref(api.Type{Kind: 6}, "a"), api.ErrType, api.ErrType},
		{mutRef(ref(api.Type{Kind: -1}, "a"), "a"), api.ErrType, api.ErrType},

		{api.Type{Kind: api.KindRef, Lives: lives}, api.ErrType, api.ErrType},
		{api.Type{Kind: api.KindMut, Lives: lives, Elem: []api.Type{}}, api.ErrType, api.ErrType},
		{api.Type{Kind: api.KindMut, Name: "S", Lives: lives}, api.ErrType, api.ErrType},
		{api.Type{Kind: api.KindRef}, api.ErrLife, api.ErrType},
		{api.Type{Kind: api.KindRef, Lives: []string{"z"}}, api.ErrLife, api.ErrLife},
		{ref(mutRef(api.Type{Kind: api.KindRef, Lives: lives}, "a"), "a"), api.ErrType, api.ErrType},

		// a reference with two lifetimes
		{ref(number(), "a", "a"), api.OK, api.OK},
		{ref(number(), "a", "z"), api.ErrLife, api.ErrLife},
		{ref(number(), "z", "a"), api.ErrLife, api.ErrLife},
	} {
		isError(t, "13.3: "+short(x.t), s.Type(x.t, lives, false), x.closed, 0)
		isError(t, "13.3: open: "+short(x.t), s.Type(x.t, lives, true), x.open, 0)
	}
}

func TestTypeByLives(t *testing.T) {
	_, s := scoped(t, typesText)
	for _, x := range []struct {
		text  string
		lives []string
		code  api.Errno
	}{
		{"int", nil, api.OK},
		{"S", nil, api.OK},
		{"&'a int", nil, api.ErrLife},
		{"R<'a>", nil, api.ErrLife},
		{"R<'a>", []string{}, api.ErrLife},
		{"R<'a>", []string{"a"}, api.OK},
		{"R<'a>", []string{"a", "a"}, api.OK},
		{"R<'a>", []string{"", "A", "aa", "a "}, api.ErrLife},
		{"R<'mut>", []string{"b", "mut"}, api.OK},
		{"&'fn int", []string{"fn", "b"}, api.OK},
		{"V<'a, 'b>", []string{"b", "c", "a"}, api.OK},
		{"V<'a, 'b>", []string{"b", "c"}, api.ErrLife},
		{"V<'a, 'b>", []string{"a", "c"}, api.ErrLife},
		{"R<'static>", []string{"a"}, api.ErrLife},
	} {
		for _, open := range []bool{false, true} {
			isError(t, "13.3: "+x.text, s.Type(parsedType(t, x.text), x.lives, open), x.code, 0)
		}
	}
	// Names of lifetimes are any texts where they are among lives.
	isError(t, "13.3: odd names", s.Type(ref(named("R", "\xFF"), ""), []string{"\xFF", ""}, false), api.OK, 0)
	isError(t, "13.3: an empty name", s.Type(ref(number(), ""), []string{"a"}, true), api.ErrLife, 0)
}

// smallTypes are all that are up to so deep, with what may be and may not be within them.
func smallTypes(depth int) []api.Type {
	l := []api.Type{{}, {Kind: 6}, {Kind: -1}, number(), truth(), {Kind: api.KindInt, Lives: []string{"z"}, Elem: []api.Type{{}}}}
	for _, name := range []string{"", "S", "R", "V", "U", "d::T", "d::W", "d::Q"} {
		for _, lives := range [][]string{nil, {"a"}, {"z"}, {"a", "b"}, {"b", "z"}, {"a", "b", "a"}} {
			l = append(l, named(name, lives...))
		}
	}
	if depth == 1 {
		return l
	}
	within := smallTypes(depth - 1)
	for _, lives := range [][]string{nil, {"a"}, {"z"}, {"a", "z"}} {
		l = append(l, api.Type{Kind: api.KindRef, Lives: lives}, api.Type{Kind: api.KindMut, Lives: lives})
		for _, to := range within {
			l = append(l, ref(to, lives...), mutRef(to, lives...))
		}
	}
	return l
}

func TestTypeOfAllSmall(t *testing.T) {
	c, s := scoped(t, typesText)
	w := want{deps: deps(t), c: c}
	told := map[api.Errno]int{}
	for _, x := range smallTypes(3) {
		for _, lives := range [][]string{nil, {"a", "b"}} {
			told[typed(t, s, w, x, lives, false)]++
			told[typed(t, s, w, x, lives, true)]++
		}
	}
	for _, code := range []api.Errno{api.OK, api.ErrName, api.ErrArgs, api.ErrLife, api.ErrType} {
		if told[code] < 100 {
			t.Errorf("error %d was told %d times alone", code, told[code])
		}
	}
}

func TestTypeOfWhatIsLarge(t *testing.T) {
	_, s := scoped(t, typesText)
	far := func(n int, end api.Type) api.Type {
		for i := range n {
			if i%2 == 0 {
				end = ref(end, "a")
			} else {
				end = mutRef(end, "a")
			}
		}
		return end
	}
	const n = 1<<16 - 1
	for _, x := range []struct {
		end  api.Type
		code api.Errno
	}{{number(), api.OK}, {named("R", "a"), api.OK}, {named("R"), api.ErrArgs}, {named("U"), api.ErrName}, {api.Type{}, api.ErrType}, {ref(number()), api.ErrLife}} {
		isError(t, "13.3: a deep type", s.Type(far(n-1, x.end), []string{"a"}, false), x.code, 0)
	}
	many := times(1<<16, func(int) string { return "a" })
	isError(t, "13.3: many Lives", s.Type(named("R", many...), many, false), api.ErrArgs, 0)
	isError(t, "13.3: many lifetimes of a reference", s.Type(ref(number(), many...), many, false), api.OK, 0)
}

func TestTypeLeavesWhatIsHandedIn(t *testing.T) {
	_, s := scoped(t, typesText)
	type args struct {
		T     api.Type
		Lives []string
	}
	for _, text := range []string{"int", "&'a mut V<'a, 'b>", "V<'z, 'a>", "&&U"} {
		x := args{parsedType(t, text), append(make([]string, 0, 9), "b", "a")}
		for _, x := range []args{x, hollowed(x)} {
			kept(t, "13.3: Type", x, func(x args) {
				s.Type(x.T, x.Lives, false)
				s.Type(x.T, x.Lives, true)
				new(scope.Scope).Type(x.T, x.Lives, true)
			})
		}
	}
}
