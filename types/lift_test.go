package types_test

import (
	"math"
	"testing"

	"usufruct/api"
	"usufruct/scope"
	"usufruct/types"
)

// 14.1

func TestLift(t *testing.T) {
	s := scoped(t)
	for _, x := range []struct {
		text, want string
		next       int
	}{
		{"int", "int", 10},
		{"bool", "bool", 10},

		// written
		{"&'a int", "&0 int", 10},
		{"&'b mut bool", "&1 mut bool", 10},
		{"&'c &'a mut &'b int", "&2 &0 mut &1 int", 10},
		{"R<'b>", "R<1>", 10},
		{"S<'b, 'a>", "S<1, 0>", 10},
		{"V<'c, 'c, 'b>", "V<2, 2, 1>", 10},
		{"d::W<'a, 'c>", "d::W<0, 2>", 10},
		{"&'b mut d::T<'c>", "&1 mut d::T<2>", 10},

		// left out
		{"&int", "&10 int", 11},
		{"&mut bool", "&10 mut bool", 11},
		{"& &mut &int", "&10 &11 mut &12 int", 13},
		{"R", "R<10>", 11},
		{"S", "S<10, 11>", 12},
		{"V", "V<10, 11, 12>", 13},
		{"d::T", "d::T<10>", 11},
		{"d::W", "d::W<10, 11>", 12},
		{"& &mut V", "&10 &11 mut V<12, 13, 14>", 15},
		{"o::D", "o::D<10, 11, 12>", 13},

		// both in one
		{"&'b &int", "&1 &10 int", 11},
		{"& &'b int", "&10 &1 int", 11},
		{"&'a S", "&0 S<10, 11>", 12},
		{"&S<'a, 'c>", "&10 S<0, 2>", 11},
		{"& &'c mut &S<'b, 'b>", "&10 &2 mut &11 S<1, 1>", 12},
		{"&'c mut & &'a d::W", "&2 mut &10 &0 d::W<11, 12>", 13},

		// structs without lifetimes, and those that there are not
		{"N", "N", 10},
		{"d::P", "d::P", 10},
		{"& &mut N", "&10 &11 mut N", 12},
		{"Z", "Z", 10},
		{"T", "T", 10},
		{"d::S", "d::S", 10},
		{"z::T", "z::T", 10},
		{"k::S", "k::S", 10},
		{"&Z", "&10 Z", 11},
		{"Z<'b, 'z, 'a>", "Z<1, -1, 0>", 10},
		{"&mut z::T<'c>", "&10 mut z::T<2>", 11},

		// too few and too many lifetimes: those that are written alone
		{"S<'b>", "S<1>", 10},
		{"R<'a, 'b, 'c>", "R<0, 1, 2>", 10},
		{"N<'c>", "N<2>", 10},

		// lifetimes that are not there
		{"&'z int", "&-1 int", 10},
		{"&'z mut &'y &'a N", "&-1 mut &-1 &0 N", 10},
		{"S<'z, 'a>", "S<-1, 0>", 10},
		{"V<'a, 'z, 'y>", "V<0, -1, -1>", 10},
		{"& S<'z, 'z>", "&10 S<-1, -1>", 11},
	} {
		y := parsedType(t, x.text)
		r, next := types.Lift(s, y, []string{"a", "b", "c"}, 10)
		isShown(t, "14.1: "+x.text, r, x.want)
		if next != x.next {
			t.Errorf("14.1: %s: next %d, not %d", x.text, next, x.next)
		}
		lifted(t, s, y, []string{"a", "b", "c"}, 10)
	}
}

func TestLiftByLives(t *testing.T) {
	s := scoped(t)
	for _, x := range []struct {
		text, want string
		lives      []string
	}{
		{"&'a &'b &'c int", "&-1 &-1 &-1 int", nil},
		{"&'a &'b &'c int", "&0 &-1 &-1 int", []string{"a"}},
		{"&'a &'b &'c int", "&2 &1 &0 int", []string{"c", "b", "a"}},

		// of two places the first
		{"&'a &'b &'c int", "&0 &1 &-1 int", []string{"a", "b", "a", "b"}},
		{"&'a &'b &'c int", "&1 &3 &0 int", []string{"c", "a", "a", "b", "c", "a"}},
		{"V<'b, 'a, 'c>", "V<0, 2, 3>", []string{"b", "b", "a", "c", "c"}},

		// names that are near each other
		{"&'a &'b &'c int", "&-1 &-1 &-1 int", []string{"", "'a", "aa", "A", "a ", "b\x00"}},
		{"S<'fn, 'int>", "S<1, 0>", []string{"int", "fn"}},
	} {
		y := parsedType(t, x.text)
		r, next := types.Lift(s, y, x.lives, 4)
		isShown(t, "14.1: "+x.text, r, x.want)
		if next != 4 {
			t.Errorf("14.1: %s: next %d, but nothing is left out", x.text, next)
		}
		lifted(t, s, y, x.lives, 4)
	}
}

func TestLiftByNext(t *testing.T) {
	s := scoped(t)
	for _, x := range []struct {
		next, behind int
		want         string
	}{
		{0, 3, "&0 S<1, 2>"},
		{5, 8, "&5 S<6, 7>"},
		{-2, 1, "&-2 S<-1, 0>"},
		{math.MaxInt - 3, math.MaxInt, "&9223372036854775804 S<9223372036854775805, 9223372036854775806>"},
		{math.MinInt, math.MinInt + 3, "&-9223372036854775808 S<-9223372036854775807, -9223372036854775806>"},
		{math.MaxInt, math.MinInt + 2, "&9223372036854775807 S<-9223372036854775808, -9223372036854775807>"},
	} {
		r, behind := types.Lift(s, parsedType(t, "&S"), []string{"a"}, x.next)
		isShown(t, "14.1: &S", r, x.want)
		if behind != x.behind {
			t.Errorf("14.1: from %d on: next %d, not %d", x.next, behind, x.behind)
		}
		_, behind = types.Lift(s, number(), nil, x.next)
		if behind != x.next {
			t.Errorf("14.1: int from %d on: next %d", x.next, behind)
		}
	}
}

func TestLiftWithoutScope(t *testing.T) {
	for _, s := range []*scope.Scope{nil, new(scope.Scope)} {
		for text, want := range map[string]string{
			"int":               "int",
			"S":                 "S",
			"d::T":              "d::T",
			"& &mut S":          "&3 &4 mut S",
			"&'b S<'a, 'z, 'b>": "&1 S<0, -1, 1>",
		} {
			r, _ := types.Lift(s, parsedType(t, text), []string{"a", "b"}, 3)
			isShown(t, "14.1: of no scope: "+text, r, want)
		}
	}
}

func TestLiftOfWhatNoTextMeans(t *testing.T) {
	s := scoped(t)
	lives := []string{"a", "b", "c"}
	for _, x := range []struct {
		what string
		t    api.Type
		want api.RType
		next int
	}{
		{"unit", api.Type{}, api.RType{}, 10},
		{"a unit with all", api.Type{Name: "S", Lives: lives, Elem: []api.Type{number()}}, api.RType{Name: "S"}, 10},
		{"an int with all", api.Type{Kind: api.KindInt, Name: "S", Lives: lives, Elem: []api.Type{ref(number())}}, api.RType{Kind: api.KindInt, Name: "S"}, 10},
		{"a bool with all", api.Type{Kind: api.KindBool, Name: "x", Lives: []string{"z"}, Elem: []api.Type{{}}}, api.RType{Kind: api.KindBool, Name: "x"}, 10},
		{"an unknown Kind", api.Type{Kind: 6, Name: "S"}, api.RType{Kind: 6, Name: "S"}, 10},
		{"an unknown Kind with all", api.Type{Kind: 6, Name: "S", Lives: lives, Elem: []api.Type{ref(number())}}, api.RType{Kind: 6, Name: "S"}, 10},
		{"a Kind below nought", api.Type{Kind: -1, Lives: lives, Elem: []api.Type{number()}}, api.RType{Kind: -1}, 10},
		{"the greatest Kind", api.Type{Kind: math.MaxInt, Lives: lives}, api.RType{Kind: math.MaxInt}, 10},
		{"the least Kind", api.Type{Kind: math.MinInt, Lives: lives}, api.RType{Kind: math.MinInt}, 10},

		{"a struct with an Elem", api.Type{Kind: api.KindStruct, Name: "R", Elem: []api.Type{ref(number())}}, rNamed("R", 10), 11},
		{"a struct with an Elem and Lives", api.Type{Kind: api.KindStruct, Name: "S", Lives: []string{"b", "a"}, Elem: []api.Type{ref(number())}}, rNamed("S", 1, 0), 10},
		{"a struct without a Name", api.Type{Kind: api.KindStruct}, rNamed(""), 10},
		{"a struct of a name that is none", named("no name\xFF", "c"), rNamed("no name\xFF", 2), 10},

		{"a reference with several Lives", ref(number(), "b", "a", "c"), rRef(rInt(), 1), 10},
		{"a mutable one with several Lives", mutRef(number(), "z", "a"), rMut(rInt(), -1), 10},
		{"a reference with a Name", api.Type{Kind: api.KindRef, Name: "S", Elem: []api.Type{number()}}, api.RType{Kind: api.KindRef, Name: "S", Regions: []int{10}, Elem: []api.RType{rInt()}}, 11},
		{"a reference with several Elem", api.Type{Kind: api.KindRef, Elem: []api.Type{ref(number()), named("S"), ref(number())}}, rRef(rRef(rInt(), 11), 10), 12},
		{"a mutable one with several Elem", api.Type{Kind: api.KindMut, Lives: []string{"c"}, Elem: []api.Type{named("S"), ref(number())}}, rMut(rNamed("S", 10, 11), 2), 12},
		{"a reference without an Elem", api.Type{Kind: api.KindRef}, api.RType{Kind: api.KindRef, Regions: []int{10}}, 11},
		{"a mutable one without an Elem", api.Type{Kind: api.KindMut, Name: "x", Lives: []string{"b", "b"}}, api.RType{Kind: api.KindMut, Name: "x", Regions: []int{1}}, 10},
		{"a reference to a unit", ref(api.Type{}), rRef(api.RType{}, 10), 11},
		{"a reference to an unknown Kind", ref(api.Type{Kind: 9, Lives: lives, Elem: []api.Type{ref(number())}}), rRef(api.RType{Kind: 9}, 10), 11},
		{"a reference to one without an Elem", ref(mutRef(api.Type{Kind: api.KindRef}), "a"), rRef(rMut(api.RType{Kind: api.KindRef, Regions: []int{11}}, 10), 0), 12},
		{"an empty lifetime", ref(number(), ""), rRef(rInt(), -1), 10},
	} {
		r, next := types.Lift(s, x.t, lives, 10)
		if !alike(r, x.want) || next != x.next {
			t.Errorf("14.1: %s: %s, %d, not %s, %d", x.what, short(r), next, short(x.want), x.next)
		}
		lifted(t, s, x.t, lives, 10)
		lifted(t, s, hollowed(x.t), hollowed(lives), 10)
		lifted(t, s, ref(mutRef(x.t), "c"), lives, -1)
	}
}

func TestLiftOfOneEmptyLifetime(t *testing.T) {
	r, next := types.Lift(nil, ref(number(), ""), []string{"a", ""}, 5)
	if !alike(r, rRef(rInt(), 1)) || next != 5 {
		t.Errorf("14.1: %s, %d", short(r), next)
	}
}

func TestLiftByChance(t *testing.T) {
	s := scoped(t)
	m := newMaker(14)
	for range 40000 {
		lifted(t, s, m.typeOf(4), m.lives(), m.r.Intn(20)-5)
	}
}

func TestLiftLeavesWhatIsHandedIn(t *testing.T) {
	s := scoped(t)
	type args struct {
		T     api.Type
		Lives []string
	}
	odd := api.Type{Kind: api.KindRef, Name: "S", Lives: []string{"b", "a"}, Elem: []api.Type{named("V"), ref(number())}}
	for _, x := range []args{
		{parsedType(t, "& &'a mut S"), []string{"b", "a", "a"}},
		{parsedType(t, "V<'c, 'a, 'z>"), []string{"a", "c"}},
		{ref(odd), []string{"a", "b"}},
		{},
	} {
		for _, x := range []args{clone(x), hollowed(x)} {
			kept(t, "14.1: Lift", x, func(x args) { types.Lift(s, x.T, x.Lives, 3) })
			a, _ := types.Lift(s, x.T, x.Lives, 3)
			b, _ := types.Lift(s, x.T, x.Lives, 3)
			ownMemory(t, "14.1: Lift", a, b, clone(x), x)
		}
	}
}

// What Lift has answered stays as it was when what was handed in changes, and the other way round.
func TestLiftIsTheCallersOwn(t *testing.T) {
	s := scoped(t)
	lives := append(make([]string, 0, 9), "a", "b")
	x := mutRef(ref(named("S", "a", "b"), "b"))
	a, _ := types.Lift(s, x, lives, 7)
	lives[0], x.Elem[0].Lives[0], x.Elem[0].Elem[0].Lives[1] = "z", "z", "z"
	isShown(t, "14.1: Lift", a, "&7 mut &1 S<0, 1>")
	b, _ := types.Lift(s, parsedType(t, "&V"), nil, 0)
	b.Elem[0].Regions[0], b.Elem[0].Name = 99, "spoilt"
	b, _ = types.Lift(s, parsedType(t, "&V"), nil, 0)
	isShown(t, "14.1: Lift", b, "&0 V<1, 2, 3>")
}
