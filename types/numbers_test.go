package types_test

import (
	"math"
	"slices"
	"testing"

	"usufruct/api"
	"usufruct/types"
)

// 14.2

func TestRegions(t *testing.T) {
	for _, x := range []struct {
		what string
		t    api.RType
		want []int
	}{
		{"unit", api.RType{}, nil},
		{"int", rInt(), nil},
		{"bool", rBool(), nil},
		{"a struct", rNamed("S", 4, -1, 4), []int{4, -1, 4}},
		{"a struct without any", rNamed("S"), nil},
		{"a reference", rRef(rInt(), 3), []int{3}},
		{"a mutable one", rMut(rBool(), -1), []int{-1}},
		{"outside first", rRef(rMut(rRef(rInt(), 2), 9), 5), []int{5, 9, 2}},
		{"a struct within", rMut(rRef(rNamed("S", 8, 1), 3), 7), []int{7, 3, 8, 1}},
		{"the ends of all numbers", rRef(rNamed("S", math.MaxInt, 0), math.MinInt), []int{math.MinInt, math.MaxInt, 0}},

		{"a reference with several", rRef(rInt(), 3, 4, 5), []int{3}},
		{"one with several within another", rMut(rRef(rInt(), 6, 7), 3, 4), []int{3, 6}},
		{"a reference without one", rRef(rInt()), nil},
		{"without one around others", rRef(rMut(rRef(rInt(), 2)), 1), []int{1, 2}},
		{"without one around a struct", rMut(rNamed("S", 2, 3)), []int{2, 3}},
		{"a reference without an Elem", api.RType{Kind: api.KindRef, Regions: []int{4, 5}}, []int{4}},
		{"a mutable one without all", api.RType{Kind: api.KindMut}, nil},
		{"a reference with several Elem", api.RType{Kind: api.KindRef, Regions: []int{1}, Elem: []api.RType{rNamed("S", 2), rNamed("S", 3), rRef(rInt(), 4)}}, []int{1, 2}},
		{"a struct with an Elem", api.RType{Kind: api.KindStruct, Name: "S", Regions: []int{1}, Elem: []api.RType{rNamed("S", 2)}}, []int{1}},
		{"an int with all", api.RType{Kind: api.KindInt, Regions: []int{1}, Elem: []api.RType{rNamed("S", 2)}}, nil},
		{"an unknown Kind", api.RType{Kind: 6, Regions: []int{1}, Elem: []api.RType{rNamed("S", 2)}}, nil},
		{"a Kind below nought", api.RType{Kind: -1, Regions: []int{1}}, nil},
		{"a reference to an int with all", rRef(api.RType{Kind: api.KindBool, Regions: []int{2}, Elem: []api.RType{rNamed("S", 3)}}, 1), []int{1}},
	} {
		if l := types.Regions(x.t); !slices.Equal(l, x.want) {
			t.Errorf("14.2: Regions of %s: %v, not %v", x.what, l, x.want)
		}
		asked(t, x.t)
		asked(t, hollowed(x.t))
	}
}

func TestCopy(t *testing.T) {
	for kind, want := range map[int]bool{
		api.KindUnit: false, api.KindInt: true, api.KindBool: true, api.KindStruct: false, api.KindRef: true, api.KindMut: false,
		6: false, 7: false, -1: false, -4: false, 1 << 32: false, 1<<32 + api.KindRef: false, math.MaxInt: false, math.MinInt: false,
	} {
		for _, x := range []api.RType{
			{Kind: kind},
			{Kind: kind, Regions: []int{1}, Elem: []api.RType{rInt()}},
			{Kind: kind, Name: "S", Regions: []int{1, 2}, Elem: []api.RType{rMut(rInt(), 1), rNamed("S")}},
			{Kind: kind, Elem: []api.RType{rRef(rInt(), 1)}},
		} {
			if is := types.Copy(x); is != want {
				t.Errorf("14.2: Copy(%s): %t", short(x), is)
			}
		}
	}
}

// changes are a type's copies, each with one thing within it changed that Same asks, at each place.
func changes(t api.RType) []api.RType {
	var l []api.RType
	add := func(change func(x *api.RType)) {
		x := clone(t)
		change(&x)
		l = append(l, x)
	}
	add(func(x *api.RType) { x.Kind++ })
	add(func(x *api.RType) { x.Kind-- })
	add(func(x *api.RType) { x.Kind += 1 << 32 })
	add(func(x *api.RType) { x.Name += "x" })
	add(func(x *api.RType) { x.Name = "d::" + x.Name })
	add(func(x *api.RType) { x.Regions = append(x.Regions, 0) })
	add(func(x *api.RType) { x.Elem = append(x.Elem, api.RType{}) })
	if len(t.Regions) > 0 {
		add(func(x *api.RType) { x.Regions = x.Regions[1:] })
	}
	if len(t.Elem) > 0 {
		add(func(x *api.RType) { x.Elem = x.Elem[:len(x.Elem)-1] })
	}
	for i, within := range t.Elem {
		for _, other := range changes(within) {
			add(func(x *api.RType) { x.Elem[i] = other })
		}
	}
	return l
}

// plenty are types of each form, and such as no text means.
func plenty() []api.RType {
	leaves := []api.RType{
		{}, rInt(), rBool(), rNamed("N"), rNamed("R", 1), rNamed("S", 2, 3), rNamed("T", 4, 5), {Kind: 6}, {Kind: -1, Regions: []int{6}},
		{Kind: api.KindRef}, {Kind: api.KindMut, Regions: []int{7}}, {Kind: api.KindInt, Regions: []int{8}, Elem: []api.RType{rNamed("R", 9)}},
	}
	l := slices.Clone(leaves)
	around := func(in []api.RType) []api.RType {
		var out []api.RType
		for _, x := range in {
			for _, kind := range []int{api.KindRef, api.KindMut} {
				out = append(out, rTo(kind, x, 10+len(out)), rTo(kind, x), rTo(kind, x, 11, 12))
			}
		}
		return out
	}
	once := around(leaves)
	twice := around(once)
	l = append(append(l, once...), twice...)
	for _, x := range leaves {
		l = append(l, api.RType{Kind: api.KindRef, Regions: []int{13}, Elem: []api.RType{x, rNamed("R", 14)}})
		l = append(l, api.RType{Kind: api.KindMut, Name: "S", Regions: []int{15}, Elem: []api.RType{rNamed("R", 16), x}})
		l = append(l, api.RType{Kind: api.KindStruct, Name: "S", Regions: []int{17}, Elem: []api.RType{x}})
	}
	return l
}

func TestSame(t *testing.T) {
	for _, x := range plenty() {
		asked(t, x)
		other := mapped(x, func(i int) int { return -7 * i })
		if !types.Same(x, other) || !types.Same(other, x) || !types.Same(x, hollowed(x)) {
			t.Fatalf("14.2: Same of %s and one with other numbers: false", short(x))
		}
		for _, y := range changes(x) {
			if types.Same(x, y) || types.Same(y, other) {
				t.Fatalf("14.2: Same(%s, %s): true", short(x), short(y))
			}
			askedBoth(t, x, y)
			askedBoth(t, y, other)
		}
	}
}

func TestSameOfAllPairs(t *testing.T) {
	l := plenty()
	for i, a := range l {
		for k, b := range l {
			if same := askedBoth(t, a, b); same != (i == k) {
				t.Fatalf("14.2: Same(%s, %s): %t", short(a), short(b), same)
			}
		}
	}
}

func TestSubst(t *testing.T) {
	odd := api.RType{Kind: api.KindRef, Name: "x", Regions: []int{0, 1, 5}, Elem: []api.RType{
		{Kind: api.KindInt, Regions: []int{1}},
		{Kind: 9, Regions: []int{0, -1}, Elem: []api.RType{rNamed("S", 2, 0)}},
	}}
	oddTo := api.RType{Kind: api.KindRef, Name: "x", Regions: []int{30, 31, 5}, Elem: []api.RType{
		{Kind: api.KindInt, Regions: []int{31}},
		{Kind: 9, Regions: []int{30, -1}, Elem: []api.RType{rNamed("S", 2, 30)}},
	}}
	for _, x := range []struct {
		what string
		t    api.RType
		m    []int
		want api.RType
	}{
		{"int", rInt(), []int{1, 2}, rInt()},
		{"unit", api.RType{}, []int{1}, api.RType{}},
		{"no map", rRef(rNamed("S", 0, 1), 2), nil, rRef(rNamed("S", 0, 1), 2)},
		{"each number", rRef(rMut(rNamed("S", 0, 1), 2), 1), []int{7, 8, 9}, rRef(rMut(rNamed("S", 7, 8), 9), 8)},
		{"once alone", rNamed("S", 0, 1, 2), []int{1, 2, 0}, rNamed("S", 1, 2, 0)},
		{"to one", rNamed("S", 0, 1, 2), []int{4, 4, 4}, rNamed("S", 4, 4, 4)},
		{"below 0", rRef(rNamed("S", -1, 0, -2), -3), []int{9, 8}, rRef(rNamed("S", -1, 9, -2), -3)},
		{"the end of the map", rNamed("S", 1, 2, 3), []int{5, 6, 7}, rNamed("S", 6, 7, 3)},
		{"beyond it", rMut(rRef(rInt(), 4), 100), []int{5, 6, 7}, rMut(rRef(rInt(), 4), 100)},
		{"the ends of all numbers", rNamed("S", math.MinInt, math.MaxInt, 0), []int{3}, rNamed("S", math.MinInt, math.MaxInt, 3)},
		{"to the ends of all numbers", rNamed("S", 0, 1), []int{math.MinInt, math.MaxInt}, rNamed("S", math.MinInt, math.MaxInt)},
		{"to numbers below 0", rNamed("S", 0, 1), []int{-1, -5}, rNamed("S", -1, -5)},
		{"what no text means", odd, []int{30, 31}, oddTo},
	} {
		if y := types.Subst(x.t, x.m); !alike(y, x.want) {
			t.Errorf("14.2: Subst: %s: %s, not %s", x.what, short(y), short(x.want))
		}
		if y := types.Subst(hollowed(x.t), hollowed(x.m)); !alike(y, x.want) {
			t.Errorf("14.2: Subst: %s, with lists that are not nil: %s, not %s", x.what, short(y), short(x.want))
		}
		asked(t, x.t)
	}
}

func TestByChance(t *testing.T) {
	m := newMaker(2)
	same := 0
	for range 15000 {
		a := m.rtypeOf(4)
		b := m.likely(a)
		c := m.likely(b)
		asked(t, a)
		list := m.regions(m.r.Intn(7))
		if y := types.Subst(a, list); !alike(y, wantSubst(a, list)) {
			t.Fatalf("14.2: Subst(%s, %v): %s", short(a), list, short(y))
		}
		if askedBoth(t, a, b) && askedBoth(t, b, c) {
			askedThree(t, a, b, c)
			same++
		}
	}
	if same < 5000 {
		t.Errorf("three were the same %d times alone", same)
	}
}

func TestNumbersLeaveWhatIsHandedIn(t *testing.T) {
	type args struct {
		A, B api.RType
		M    []int
	}
	for _, x := range append(plenty(), rRef(rMut(rNamed("V", 1, 2, 0), 0), 3)) {
		for _, x := range []args{{clone(x), clone(x), []int{3, 1, 0}}, hollowed(args{A: x, B: x})} {
			kept(t, "14.2, 14.4", x, func(x args) {
				types.Regions(x.A)
				types.Same(x.A, x.B)
				types.Copy(x.A)
				types.Subst(x.A, x.M)
				types.Sub(x.A, x.B)
				types.Well(x.A)
			})
			ownMemory(t, "14.2, 14.4", x, types.Regions(x.A), types.Regions(x.A), types.Subst(x.A, x.M), types.Subst(x.A, x.M), types.Subst(x.A, nil),
				types.Sub(x.A, x.B), types.Sub(x.A, x.B), types.Well(x.A), types.Well(x.A))
		}
	}
}

// Lists that are one in what is handed in, and that have room behind them.
func TestAnswersShareNothing(t *testing.T) {
	shared := append(make([]int, 0, 9), 0, 1)
	within := append(make([]api.RType, 0, 9), rNamed("S", shared...))
	x := api.RType{Kind: api.KindRef, Name: "x", Regions: shared, Elem: []api.RType{
		{Kind: api.KindMut, Regions: shared, Elem: within},
		{Kind: api.KindMut, Regions: shared, Elem: within},
	}}
	a, b, c := types.Subst(x, shared), types.Subst(x, []int{5}), types.Regions(x)
	ownMemory(t, "14.2: Subst, Regions", within, a, b, c)
	r := types.Regions(within[0])
	r[0] = 77
	_ = append(r, 78)
	shared[1] = 66
	if !slices.Equal(within[0].Regions, []int{0, 66}) || !slices.Equal(c, []int{0, 0, 0, 1}) || a.Elem[1].Elem[0].Regions[1] != 1 {
		t.Fatalf("14.2: %s, %v, %s", short(x), c, short(a))
	}
}
