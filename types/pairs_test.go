package types_test

import (
	"math"
	"slices"
	"testing"

	"usufruct/api"
	"usufruct/types"
)

// 14.4

func TestSub(t *testing.T) {
	s := scoped(t)
	for _, x := range []struct {
		text string
		want []pair
	}{
		{"int", nil},
		{"bool", nil},
		{"N", nil},
		{"&int", []pair{{1, 11}}},
		{"&mut int", []pair{{1, 11}}},
		{"& &bool", []pair{{1, 11}, {2, 12}}},
		{"&N", []pair{{1, 11}}},
		{"&mut N", []pair{{1, 11}}},

		// structs: both ways
		{"R", []pair{{1, 11}, {11, 1}}},
		{"V", []pair{{1, 11}, {11, 1}, {2, 12}, {12, 2}, {3, 13}, {13, 3}}},
		{"d::W", []pair{{1, 11}, {11, 1}, {2, 12}, {12, 2}}},
		{"&S", []pair{{1, 11}, {2, 12}, {12, 2}, {3, 13}, {13, 3}}},
		{"&mut S", []pair{{1, 11}, {2, 12}, {12, 2}, {3, 13}, {13, 3}}},
		{"& &S", []pair{{1, 11}, {2, 12}, {3, 13}, {13, 3}, {4, 14}, {14, 4}}},

		// within a mutable reference both ways, its own one way
		{"&mut &int", []pair{{1, 11}, {2, 12}, {12, 2}}},
		{"&mut &mut int", []pair{{1, 11}, {2, 12}, {12, 2}}},
		{"&mut & &int", []pair{{1, 11}, {2, 12}, {12, 2}, {3, 13}, {13, 3}}},
		{"&mut &mut &mut R", []pair{{1, 11}, {2, 12}, {12, 2}, {3, 13}, {13, 3}, {4, 14}, {14, 4}}},
		{"& &mut int", []pair{{1, 11}, {2, 12}}},
		{"& &mut &int", []pair{{1, 11}, {2, 12}, {3, 13}, {13, 3}}},
		{"& & &mut & &R", []pair{{1, 11}, {2, 12}, {3, 13}, {4, 14}, {14, 4}, {5, 15}, {15, 5}, {6, 16}, {16, 6}}},
		{"&mut & &mut &int", []pair{{1, 11}, {2, 12}, {12, 2}, {3, 13}, {13, 3}, {4, 14}, {14, 4}}},
	} {
		a, b := typed(t, s, x.text, 1), typed(t, s, x.text, 11)
		if l := types.Sub(a, b); !slices.Equal(l, x.want) {
			t.Errorf("14.4: Sub of %s: %v, not %v", x.text, l, x.want)
		}
		askedBoth(t, a, b)
		askedBoth(t, b, a)
	}
}

// Examples of the chapter.
func TestSubExamples(t *testing.T) {
	if l := types.Sub(rRef(rInt(), 1), rRef(rInt(), 2)); !slices.Equal(l, []pair{{1, 2}}) {
		t.Errorf("14.4: %v", l)
	}
	if l := types.Sub(rMut(rNamed("S", 3), 1), rMut(rNamed("S", 4), 2)); !slices.Equal(l, []pair{{1, 2}, {3, 4}, {4, 3}}) {
		t.Errorf("14.4: %v", l)
	}
}

func TestSubOfOtherNumbers(t *testing.T) {
	for _, x := range []struct {
		a, b api.RType
		want []pair
	}{
		{rRef(rInt(), 5), rRef(rInt(), 5), []pair{{5, 5}}},
		{rRef(rNamed("S", 1, 1), 1), rRef(rNamed("S", 1, 1), 1), []pair{{1, 1}, {1, 1}, {1, 1}, {1, 1}, {1, 1}}},
		{rRef(rInt(), -1), rRef(rInt(), 0), []pair{{-1, 0}}},
		{rNamed("S", math.MinInt), rNamed("S", math.MaxInt), []pair{{math.MinInt, math.MaxInt}, {math.MaxInt, math.MinInt}}},
		{rNamed("S", 1, 2), rNamed("S", 2, 1), []pair{{1, 2}, {2, 1}, {2, 1}, {1, 2}}},
	} {
		if l := types.Sub(x.a, x.b); !slices.Equal(l, x.want) {
			t.Errorf("14.4: Sub(%s, %s): %v, not %v", short(x.a), short(x.b), l, x.want)
		}
	}
}

func TestSubOfUnlikeTypes(t *testing.T) {
	for _, x := range [][2]api.RType{
		{rRef(rInt(), 1), rRef(rBool(), 2)},
		{rRef(rInt(), 1), rMut(rInt(), 2)},
		{rMut(rInt(), 1), rRef(rInt(), 2)},
		{rRef(rInt(), 1), rInt()},
		{rInt(), rRef(rInt(), 1)},
		{rRef(rInt(), 1), rRef(rRef(rInt(), 3), 2)},
		{rRef(rRef(rInt(), 1), 1), rRef(rMut(rInt(), 2), 2)},
		{rMut(rRef(rInt(), 1), 1), rMut(rMut(rInt(), 2), 2)},
		{rNamed("S", 1), rNamed("R", 2)},
		{rNamed("S", 1), rNamed("d::S", 2)},
		{rNamed("S", 1), rNamed("S", 2, 3)},
		{rNamed("S", 1, 2), rNamed("S", 3)},
		{rNamed("S", 1), rNamed("S")},
		{rRef(rNamed("S", 1), 1), rRef(rNamed("S", 2, 3), 1)},
		{rMut(rNamed("S", 1), 1), rMut(rNamed("R", 2), 1)},
		{rRef(rInt(), 1), rRef(rInt())},
		{rRef(rInt()), rRef(rInt(), 1)},
		{rRef(rInt(), 1), rRef(rInt(), 1, 2)},
		{rRef(rInt(), 1), {Kind: api.KindRef, Regions: []int{1}}},
		{rRef(rInt(), 1), {Kind: api.KindRef, Regions: []int{1}, Elem: []api.RType{rInt(), rInt()}}},
		{rRef(rInt(), 1), {Kind: api.KindRef, Name: "S", Regions: []int{1}, Elem: []api.RType{rInt()}}},
	} {
		if l := types.Sub(x[0], x[1]); len(l) != 0 {
			t.Errorf("14.4: Sub(%s, %s): %v", short(x[0]), short(x[1]), l)
		}
	}
}

func TestPairsOfWhatNoTextMeans(t *testing.T) {
	several := func(kind, from int) api.RType {
		return api.RType{Kind: kind, Regions: []int{from}, Elem: []api.RType{rRef(rInt(), from+1), rRef(rInt(), from+2)}}
	}
	for _, x := range []struct {
		what      string
		a, b      api.RType
		sub, well []pair
	}{
		{"unit", api.RType{}, api.RType{}, nil, nil},
		{"an int with all", api.RType{Kind: api.KindInt, Regions: []int{1}, Elem: []api.RType{rRef(rRef(rInt(), 2), 3)}}, api.RType{Kind: api.KindInt, Regions: []int{4}, Elem: []api.RType{rRef(rRef(rInt(), 5), 6)}}, nil, nil},
		{"an unknown Kind", api.RType{Kind: 6, Regions: []int{1}, Elem: []api.RType{rRef(rRef(rInt(), 2), 3)}}, api.RType{Kind: 6, Regions: []int{4}, Elem: []api.RType{rRef(rRef(rInt(), 5), 6)}}, nil, nil},
		{"a struct with an Elem", api.RType{Kind: api.KindStruct, Regions: []int{1}, Elem: []api.RType{rRef(rRef(rInt(), 2), 3)}}, api.RType{Kind: api.KindStruct, Regions: []int{4}, Elem: []api.RType{rRef(rRef(rInt(), 5), 6)}}, []pair{{1, 4}, {4, 1}}, nil},

		// without a number of its own
		{"a reference without one", rRef(rInt()), rRef(rInt()), nil, nil},
		{"without one around", rRef(rRef(rInt(), 1)), rRef(rRef(rInt(), 2)), []pair{{1, 2}}, nil},
		{"without one around two", rRef(rRef(rRef(rInt(), 3), 1)), rRef(rRef(rRef(rInt(), 4), 2)), []pair{{1, 2}, {3, 4}}, []pair{{3, 1}}},
		{"a mutable one without one", rMut(rRef(rInt(), 1)), rMut(rRef(rInt(), 2)), []pair{{1, 2}, {2, 1}}, nil},
		{"without one within", rRef(rRef(rInt()), 1), rRef(rRef(rInt()), 2), []pair{{1, 2}}, nil},
		{"without one between", rRef(rMut(rNamed("S", 3, 5)), 1), rRef(rMut(rNamed("S", 4, 6)), 2), []pair{{1, 2}, {3, 4}, {4, 3}, {5, 6}, {6, 5}}, []pair{{3, 1}, {5, 1}}},

		// with several: the first one is its own
		{"a reference with several", rRef(rInt(), 1, 2), rRef(rInt(), 3, 4), []pair{{1, 3}}, nil},
		{"with several around", rRef(rRef(rInt(), 5, 6), 1, 2), rRef(rRef(rInt(), 7, 8), 3, 4), []pair{{1, 3}, {5, 7}}, []pair{{5, 1}}},
		{"a mutable one with several", rMut(rRef(rInt(), 5, 6), 1, 2), rMut(rRef(rInt(), 7, 8), 3, 4), []pair{{1, 3}, {5, 7}, {7, 5}}, []pair{{5, 1}}},

		// without an Elem, and with several: the first one counts
		{"a reference without an Elem", api.RType{Kind: api.KindRef, Regions: []int{1}}, api.RType{Kind: api.KindRef, Regions: []int{2}}, []pair{{1, 2}}, nil},
		{"a mutable one without an Elem", api.RType{Kind: api.KindMut, Regions: []int{1}}, api.RType{Kind: api.KindMut, Regions: []int{2}}, []pair{{1, 2}}, nil},
		{"without an Elem within", rMut(rRef(api.RType{Kind: api.KindMut, Regions: []int{3}}, 2), 1), rMut(rRef(api.RType{Kind: api.KindMut, Regions: []int{6}}, 5), 4), []pair{{1, 4}, {2, 5}, {5, 2}, {3, 6}, {6, 3}}, []pair{{2, 1}, {3, 1}, {3, 2}}},
		{"a reference with several Elem", several(api.KindRef, 1), several(api.KindRef, 11), []pair{{1, 11}, {2, 12}}, []pair{{2, 1}}},
		{"a mutable one with several Elem", several(api.KindMut, 1), several(api.KindMut, 11), []pair{{1, 11}, {2, 12}, {12, 2}}, []pair{{2, 1}}},
	} {
		if l := types.Sub(x.a, x.b); !slices.Equal(l, x.sub) {
			t.Errorf("14.4: Sub of %s: %v, not %v", x.what, l, x.sub)
		}
		if l := types.Well(x.a); !slices.Equal(l, x.well) {
			t.Errorf("14.4: Well of %s: %v, not %v", x.what, l, x.well)
		}
		askedBoth(t, hollowed(x.a), x.b)
		asked(t, x.a)
		asked(t, hollowed(x.b))
	}
}

func TestWell(t *testing.T) {
	s := scoped(t)
	for _, x := range []struct {
		text string
		want []pair
	}{
		{"int", nil},
		{"S", nil},
		{"V", nil},
		{"d::W", nil},
		{"Z", nil},
		{"&int", nil},
		{"&mut bool", nil},
		{"&N", nil},
		{"&R", []pair{{2, 1}}},
		{"&mut S", []pair{{2, 1}, {3, 1}}},
		{"& &int", []pair{{2, 1}}},
		{"&mut &int", []pair{{2, 1}}},
		{"& &mut int", []pair{{2, 1}}},
		{"& &mut S", []pair{{2, 1}, {3, 1}, {4, 1}, {3, 2}, {4, 2}}},
		{"&mut & &int", []pair{{2, 1}, {3, 1}, {3, 2}}},
		{"& & & &int", []pair{{2, 1}, {3, 1}, {4, 1}, {3, 2}, {4, 2}, {4, 3}}},
		{"&mut &mut d::T", []pair{{2, 1}, {3, 1}, {3, 2}}},
	} {
		y := typed(t, s, x.text, 1)
		if l := types.Well(y); !slices.Equal(l, x.want) {
			t.Errorf("14.4: Well of %s: %v, not %v", x.text, l, x.want)
		}
		asked(t, y)
	}
	if l := types.Well(rRef(rNamed("S", 3, 3, -1), 3)); !slices.Equal(l, []pair{{3, 3}, {3, 3}, {-1, 3}}) {
		t.Errorf("14.4: Well of one number: %v", l)
	}
}

// 14.5

func TestSubOfItself(t *testing.T) {
	for _, x := range plenty() {
		isItself(t, x)
	}
	if l := types.Sub(rMut(rNamed("S", 2, 3), 1), rMut(rNamed("S", 2, 3), 1)); !slices.Equal(l, []pair{{1, 1}, {2, 2}, {2, 2}, {3, 3}, {3, 3}}) {
		t.Errorf("14.5: %v", l)
	}
}

func TestSubFollows(t *testing.T) {
	all := [][3]int{{100, 200, 300}, {0, 1, 2}, {0, 0, 0}, {0, 3, 0}, {3, 0, 0}, {2, 1, 0}}
	for _, x := range plenty() {
		for _, add := range all {
			var l [3]api.RType
			for i, n := range add {
				l[i] = mapped(x, func(q int) int { return q + n })
			}
			askedThree(t, l[0], l[1], l[2])
		}
		for _, to := range [][3]int{{1, 2, 3}, {2, 3, 5}, {4, 4, 1}} {
			var l [3]api.RType
			for i, n := range to {
				l[i] = mapped(x, func(q int) int { return q % n })
			}
			askedThree(t, l[0], l[1], l[2])
		}
	}
}

// With numbers that are all unlike, nothing else follows of the first and the third than what these ask.
func TestNothingElseFollows(t *testing.T) {
	s := scoped(t)
	for _, text := range []string{"&int", "&mut int", "S", "&V", "&mut &S", "& &mut & &mut R", "&mut &mut &d::W"} {
		a, b, c := typed(t, s, text, 0), typed(t, s, text, 100), typed(t, s, text, 200)
		want := follow(types.Sub(a, c))
		for p := range follow(append(types.Sub(a, b), types.Sub(b, c)...)) {
			if p[0]/100 != 1 && p[1]/100 != 1 && !want[p] {
				t.Errorf("14.5: %s: %v follows", text, p)
			}
		}
	}
}
