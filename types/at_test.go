package types_test

import (
	"math"
	"slices"
	"strings"
	"testing"

	"usufruct/api"
	"usufruct/scope"
	"usufruct/types"
)

// 14.3

// steps cuts a path at its points; the empty one has no steps.
func steps(path string) []string {
	if path == "" {
		return nil
	}
	return strings.Split(path, ".")
}

// typed is a text's type, all of its lifetimes left out, numbered from next on.
func typed(t *testing.T, s *scope.Scope, text string, next int) api.RType {
	t.Helper()
	x, _ := types.Lift(s, parsedType(t, text), nil, next)
	return x
}

func TestAt(t *testing.T) {
	s := scoped(t)
	for _, x := range []struct{ text, path, want string }{
		// without steps
		{"int", "", "int"},
		{"V", "", "V<3, 4, 5>"},
		{"& &mut S", "", "&3 &4 mut S<5, 6>"},
		{"Z", "", "Z"},

		// references
		{"&int", "*", "int"},
		{"&mut bool", "*", "bool"},
		{"& &mut S", "*", "&4 mut S<5, 6>"},
		{"& &mut S", "*.*", "S<5, 6>"},
		{"& & & &int", "*.*.*", "&6 int"},
		{"&Z", "*", "Z"},

		// fields
		{"R", "n", "int"},
		{"R", "r", "&3 int"},
		{"S", "p", "d::P"},
		{"S", "q", "&3 mut d::T<3>"},
		{"S", "r", "&4 N"},
		{"S", "s", "R<4>"},
		{"S", "b", "bool"},
		{"V", "v", "&4 &4 mut S<4, 4>"},
		{"V", "w", "d::W<5, 3>"},
		{"V", "x", "S<5, 3>"},
		{"V", "y", "&3 mut R<3>"},

		// fields of a dependency's structs
		{"d::P", "n", "int"},
		{"d::T", "f", "&3 int"},
		{"d::T", "p", "d::P"},
		{"d::W", "t", "&3 mut d::T<3>"},
		{"d::W", "u", "d::T<4>"},
		{"d::W", "w", "&4 d::P"},
		{"d::W", "w.*.b", "bool"},
		{"d::W", "t.*.f", "&3 int"},
		{"d::W", "u.f.*", "int"},
		{"d::W", "u.p", "d::P"},

		// through both
		{"&S", "*.q", "&4 mut d::T<4>"},
		{"&mut S", "*.s.r", "&5 int"},
		{"&S", "*.q.*.f.*", "int"},
		{"V", "v.*.*", "S<4, 4>"},
		{"V", "x.q", "&5 mut d::T<5>"},
		{"V", "x.s.r", "&3 int"},
		{"V", "w.u.f", "&3 int"},
		{"V", "w.t.*.f", "&5 int"},
		{"V", "v.*.*.s.n", "int"},
		{"& &mut &V", "*.*.*.w.t.*.p.b", "bool"},
		{"& &mut &V", "*.*.*.x.r", "&6 N"},
	} {
		y := typed(t, s, x.text, 3)
		z, err := types.At(s, y, steps(x.path))
		isError(t, "14.3: "+x.text+" at "+x.path, err, api.OK, 0)
		isShown(t, "14.3: "+x.text+" at "+x.path, z, x.want)
		walked(t, s, y, steps(x.path))
	}
}

func TestAtOfWrongSteps(t *testing.T) {
	s := scoped(t)
	for _, x := range []struct {
		text, path string
		code       api.Errno
		at         int
	}{
		// the first one
		{"int", "*", api.ErrType, 0},
		{"bool", "n", api.ErrType, 0},
		{"R", "*", api.ErrType, 0},
		{"R", "f", api.ErrName, 0},
		{"R", "R", api.ErrName, 0},
		{"R", "N", api.ErrName, 0},
		{"R", "n ", api.ErrName, 0},
		{"R", "**", api.ErrName, 0},
		{"N", "n", api.ErrName, 0},
		{"Z", "n", api.ErrType, 0},
		{"Z", "*", api.ErrType, 0},
		{"T", "f", api.ErrType, 0},
		{"d::Z", "f", api.ErrType, 0},
		{"z::T", "f", api.ErrType, 0},
		{"&R", "n", api.ErrType, 0},
		{"&mut R", "n", api.ErrType, 0},
		{"&R", "**", api.ErrType, 0},
		{"d::T", "n", api.ErrName, 0},
		{"int", "*.*.*", api.ErrType, 0},
		{"Z", "n.*.z", api.ErrType, 0},
		{"R", "z.*.z", api.ErrName, 0},

		// one in the middle
		{"&int", "*.*.*", api.ErrType, 1},
		{"&R", "*.f.n", api.ErrName, 1},
		{"&Z", "*.f.n", api.ErrType, 1},
		{"S", "q.f.*", api.ErrType, 1},
		{"S", "q.*.z.*", api.ErrName, 2},
		{"S", "s.n.*.z", api.ErrType, 2},
		{"V", "v.*.q.*.f", api.ErrType, 2},
		{"V", "v.*.*.w.f", api.ErrName, 3},

		// the last one
		{"&int", "*.*", api.ErrType, 1},
		{"&int", "*.n", api.ErrType, 1},
		{"&R", "*.f", api.ErrName, 1},
		{"& &mut R", "*.*.*", api.ErrType, 2},
		{"S", "q.*.f.*.*", api.ErrType, 4},
		{"S", "q.*.f.*.n", api.ErrType, 4},
		{"S", "q.*.n", api.ErrName, 2},
		{"S", "p.b.b", api.ErrType, 2},
		{"V", "w.t.*.p.z", api.ErrName, 4},
		{"V", "x.r.*.*", api.ErrType, 3},
	} {
		y := typed(t, s, x.text, 3)
		z, err := types.At(s, y, steps(x.path))
		isError(t, "14.3: "+x.text+" at "+x.path, err, x.code, x.at)
		if !alike(z, api.RType{}) {
			t.Errorf("14.3: %s at %s: %s beside an error", x.text, x.path, short(z))
		}
		walked(t, s, y, steps(x.path))
	}
}

func TestAtOfEmptySteps(t *testing.T) {
	s := scoped(t)
	for _, x := range []struct {
		text string
		code api.Errno
	}{{"int", api.ErrType}, {"&R", api.ErrType}, {"R", api.ErrName}, {"Z", api.ErrType}} {
		_, err := types.At(s, typed(t, s, x.text, 0), []string{""})
		isError(t, "14.3: an empty step of "+x.text, err, x.code, 0)
	}
	y, err := types.At(s, typed(t, s, "R", 0), []string{})
	isError(t, "14.3: no steps", err, api.OK, 0)
	isShown(t, "14.3: no steps", y, "R<0>")
}

func TestAtOfWhatNoTextMeans(t *testing.T) {
	s := scoped(t)
	several := []api.RType{rNamed("R", 1), rNamed("R", 2), rInt()}
	whole := api.RType{Kind: api.KindInt, Name: "R", Regions: []int{1, 2}, Elem: several}
	for _, x := range []struct {
		what string
		t    api.RType
		path string
		code api.Errno
		at   int
		want api.RType
	}{
		{"without steps", whole, "", api.OK, 0, whole},
		{"an int with all", whole, "*", api.ErrType, 0, api.RType{}},
		{"an int with all", whole, "n", api.ErrType, 0, api.RType{}},
		{"what has all within a reference", rRef(whole, 4), "*", api.OK, 0, whole},
		{"a unit", api.RType{}, "*", api.ErrType, 0, api.RType{}},
		{"a unit", api.RType{Name: "R"}, "n", api.ErrType, 0, api.RType{}},
		{"an unknown Kind", api.RType{Kind: 6, Name: "R", Elem: several}, "*", api.ErrType, 0, api.RType{}},
		{"an unknown Kind", api.RType{Kind: 6, Name: "R", Elem: several}, "n", api.ErrType, 0, api.RType{}},
		{"the greatest Kind", api.RType{Kind: math.MaxInt, Name: "R", Elem: several}, "n", api.ErrType, 0, api.RType{}},

		{"a reference without an Elem", api.RType{Kind: api.KindRef, Regions: []int{1}}, "*", api.ErrType, 0, api.RType{}},
		{"a mutable one without an Elem", api.RType{Kind: api.KindMut, Elem: []api.RType{}}, "*", api.ErrType, 0, api.RType{}},
		{"one without an Elem within", rRef(rMut(api.RType{Kind: api.KindRef}, 2), 1), "*.*.*", api.ErrType, 2, api.RType{}},
		{"a reference with several Elem", api.RType{Kind: api.KindRef, Elem: several}, "*", api.OK, 0, rNamed("R", 1)},
		{"a mutable one with several Elem", api.RType{Kind: api.KindMut, Elem: several}, "*.r", api.OK, 0, rRef(rInt(), 1)},
		{"a reference that has a struct's Name", api.RType{Kind: api.KindRef, Name: "R", Elem: several}, "n", api.ErrType, 0, api.RType{}},
		{"a struct with an Elem", api.RType{Kind: api.KindStruct, Name: "R", Elem: several}, "*", api.ErrType, 0, api.RType{}},
		{"a struct with an Elem", api.RType{Kind: api.KindStruct, Name: "R", Regions: []int{8}, Elem: several}, "r", api.OK, 0, rRef(rInt(), 8)},

		// fewer and more numbers than the struct has lifetimes
		{"none", rNamed("S"), "q", api.OK, 0, rMut(rNamed("d::T", 0), 0)},
		{"none", rNamed("V"), "w", api.OK, 0, rNamed("d::W", 2, 0)},
		{"too few", rNamed("V", 7), "w", api.OK, 0, rNamed("d::W", 2, 7)},
		{"too few", rNamed("V", 7, 8), "v.*.*.r", api.OK, 0, rRef(rNamed("N"), 8)},
		{"too many", rNamed("R", 7, 8, 9), "r", api.OK, 0, rRef(rInt(), 7)},
		{"numbers below 0", rNamed("V", -1, -2, -3), "x", api.OK, 0, rNamed("S", -3, -1)},
		{"the ends of all numbers", rNamed("S", math.MinInt, math.MaxInt), "s.r", api.OK, 0, rRef(rInt(), math.MaxInt)},
	} {
		y, err := types.At(s, x.t, steps(x.path))
		isError(t, "14.3: "+x.what, err, x.code, x.at)
		if !alike(y, x.want) {
			t.Errorf("14.3: %s: %s, not %s", x.what, short(y), short(x.want))
		}
		walked(t, s, x.t, steps(x.path))
		walked(t, s, hollowed(x.t), steps(x.path))
	}
}

// A sig may have structs that no crate has that is right: the numbers behind the struct's own are those of what it leaves out.
func TestAtOfOddStructs(t *testing.T) {
	s := scoped(t)
	for _, x := range []struct {
		t    api.RType
		path string
		want string
	}{
		{rNamed("o::L", 7), "out", "&7 &1 mut o::M<2, 3>"},
		{rNamed("o::L", 7), "out.*.*.m", "&3 &2 int"},
		{rNamed("o::L", 7, 8, 9), "out", "&7 &8 mut o::M<9, 3>"},
		{rNamed("o::L", 7), "none", "&-1 int"},
		{rNamed("o::L", 7), "again.again.again", "o::L<7>"},
		{rNamed("o::L", 7), "again.bare", "o::L<1>"},
		{rNamed("o::L", 7), "bare.bare.out", "&1 &1 mut o::M<2, 3>"},
		{rNamed("o::L", 7), "lost", "o::Z"},
		{rNamed("o::L", 7), "few", "o::M<7>"},
		{rNamed("o::L", 7), "few.m", "&1 &2 int"},
		{rNamed("o::D", 7, 8, 9), "f", "&7 int"},
		{rNamed("o::D", 7, 8, 9), "g", "o::D<8, 7, 8>"},
		{rNamed("o::D", 7, 8, 9), "g.g.g", "o::D<8, 7, 8>"},
		{rNamed("o::D", 7, 8, 9), "g.f", "&8 int"},
		{rNamed("o::D", 7, 8, 9), "h", "o::D<3, 4, 5>"},
	} {
		y, err := types.At(s, x.t, steps(x.path))
		isError(t, "14.3: "+shown(x.t)+" at "+x.path, err, api.OK, 0)
		isShown(t, "14.3: "+shown(x.t)+" at "+x.path, y, x.want)
		walked(t, s, x.t, steps(x.path))
	}
	_, err := types.At(s, rNamed("o::L", 7), steps("lost.f"))
	isError(t, "14.3: a field of a struct that there is not", err, api.ErrType, 1)
	_, err = types.At(s, rNamed("o::L", 7), steps("again.again.z"))
	isError(t, "14.3: no such field", err, api.ErrName, 2)
}

func TestAtWithoutScope(t *testing.T) {
	for _, s := range []*scope.Scope{nil, new(scope.Scope)} {
		x := rRef(rMut(rNamed("R", 3), 2), 1)
		y, err := types.At(s, x, steps("*.*"))
		isError(t, "14.3: of no scope", err, api.OK, 0)
		isShown(t, "14.3: of no scope", y, "R<3>")
		_, err = types.At(s, x, steps("*.*.r"))
		isError(t, "14.3: a field of no scope", err, api.ErrType, 2)
		_, err = types.At(s, rNamed("d::T", 3), steps("f"))
		isError(t, "14.3: a field of no scope", err, api.ErrType, 0)
	}
}

func TestAtByChance(t *testing.T) {
	s := scoped(t)
	m := newMaker(3)
	told := map[api.Errno]int{}
	deep := 0
	for range 20000 {
		x := m.rtypeOf(4)
		path := m.path(func(path []string) bool {
			_, err := types.At(s, x, path)
			return err == nil
		})
		y, code := walked(t, s, x, path)
		told[code]++
		if code == api.OK {
			asked(t, y)
			if len(path) > 3 {
				deep++
			}
		}
	}
	if told[api.OK] < 3000 || told[api.ErrType] < 500 || told[api.ErrName] < 200 || deep < 500 {
		t.Errorf("told %v, %d deep", told, deep)
	}
}

// One step behind the other is what all of them are at once.
func TestAtStepByStep(t *testing.T) {
	s := scoped(t)
	x := rRef(rNamed("V", 5, 6, 7), 4)
	path := steps("*.v.*.*.q.*.f.*")
	want := x
	for i := range path {
		one, err := types.At(s, want, path[i:i+1])
		isError(t, "14.3: one step", err, api.OK, 0)
		want = one
		all, err := types.At(s, x, path[:i+1])
		isError(t, "14.3: all steps", err, api.OK, 0)
		if !alike(all, want) {
			t.Fatalf("14.3: %v: %s, not %s", path[:i+1], short(all), short(want))
		}
	}
}

func TestAtLeavesWhatIsHandedIn(t *testing.T) {
	s := scoped(t)
	type args struct {
		T    api.RType
		Path []string
	}
	odd := api.RType{Kind: api.KindMut, Name: "x", Regions: []int{1, 2}, Elem: []api.RType{rNamed("V", 3, 4, 5), rNamed("R", 6)}}
	for _, x := range []args{
		{odd, nil},
		{odd, steps("*")},
		{rRef(odd, 7), steps("*")},
		{rRef(odd, 7), steps("*.*.v")},
		{rRef(odd, 7), steps("*.*.w.u")},
		{rRef(odd, 7), steps("*.*.z.u")},
		{},
	} {
		for _, x := range []args{clone(x), hollowed(x)} {
			kept(t, "14.3: At", x, func(x args) { types.At(s, x.T, x.Path) })
			a, _ := types.At(s, x.T, x.Path)
			b, _ := types.At(s, x.T, x.Path)
			ownMemory(t, "14.3: At", x, a, b)
		}
	}
}

// What is handed out is the caller's own: neither what was handed in nor the scope changes by it.
func TestAtIsTheCallersOwn(t *testing.T) {
	s := scoped(t)
	x := rRef(rMut(rNamed("V", 1, 2, 3), 4), 5)
	for _, path := range []string{"", "*", "*.*", "*.*.v", "*.*.v.*.*", "*.*.w"} {
		ahead, _ := types.At(s, x, steps(path))
		y, _ := types.At(s, x, steps(path))
		for t := &y; t != nil; {
			for i := range t.Regions {
				t.Regions[i] = 99
			}
			t.Name, t.Kind = "spoilt", -9
			if len(t.Elem) == 0 {
				break
			}
			t = &t.Elem[0]
		}
		again, _ := types.At(s, x, steps(path))
		if !alike(again, ahead) || !slices.Equal(types.Regions(x), []int{5, 4, 1, 2, 3}) {
			t.Fatalf("14.3: %q: %s, not %s", path, short(again), short(ahead))
		}
	}
}
