package mir_test

import (
	"fmt"
	"math"
	"slices"
	"testing"

	"usufruct/api"
)

// typePlaces are functions of 6 regions with a type in each place where one stands.
func typePlaces(x api.RType) map[string]api.Mir {
	first, last := of(), of()
	first.Locals[0].Type = x
	last.Locals = append(last.Locals, api.Local{Type: x, Param: true})
	within := of()
	within.Locals[2].Type = rTo(api.KindMut, x, 2)
	deep := of()
	deep.Locals[2].Type = rTo(api.KindRef, rTo(api.KindMut, x, 2), 0)
	return map[string]api.Mir{"the first": first, "the last": last, "within a reference": within, "deep": deep}
}

// mayType asks a type in all places.
func mayType(t *testing.T, x api.RType, want bool) {
	t.Helper()
	for what, m := range typePlaces(x) {
		may(t, fmt.Sprintf("%s: %+v", what, x), m, want)
	}
}

// 16.1: Kinds, how many of Regions and of Elem, and names, which are not asked.
func TestTypes(t *testing.T) {
	elems := [][]api.RType{
		nil,
		{rInt()},
		{rInt(), rInt()},
		{rTo(api.KindRef, rNamed("S", 1), 0)},
		{{}},
		{rBool(), rBool(), rBool()},
	}
	for _, kind := range append(numbers(6), 1, 2, 3, 4) {
		for _, name := range []string{"", "S", "::"} {
			for regions := range 4 {
				for _, elem := range elems {
					x := api.RType{Kind: kind, Name: name, Regions: []int{0, 5, 1}[:regions], Elem: elem}
					want := kind >= 0 && kind <= 3 && len(elem) == 0
					if kind == api.KindRef || kind == api.KindMut {
						want = regions == 1 && len(elem) == 1
					}
					mayType(t, x, want)
				}
			}
		}
	}
}

// 16.1: of all types.
func TestNumbersOfTypes(t *testing.T) {
	for _, n := range append(numbers(6), 1, 2, 3, 4) {
		want := 0 <= n && n < 6
		mayType(t, rTo(api.KindRef, rInt(), n), want)
		mayType(t, rTo(api.KindMut, rInt(), n), want)
		mayType(t, rTo(api.KindMut, rTo(api.KindRef, rInt(), n), 5), want)
		mayType(t, rNamed("S", n), want)
		mayType(t, rNamed("S", n, 5, 0), want)
		mayType(t, rNamed("S", 0, 5, n), want)
		mayType(t, rTo(api.KindRef, rNamed("S", 3, n), 3), want)
		for _, kind := range []int{api.KindUnit, api.KindInt, api.KindBool} {
			mayType(t, api.RType{Kind: kind, Regions: []int{n}}, want)
		}
	}
	many := rNamed("S", slices.Repeat([]int{5}, 5000)...)
	mayType(t, many, true)
	many.Regions[4999] = 6
	mayType(t, many, false)
}

// 16.1: each thing that may not be in what a reference refers to.
func TestTypesWithinReferences(t *testing.T) {
	for _, kind := range []int{api.KindRef, api.KindMut} {
		for _, x := range []api.RType{
			{Kind: -1},
			{Kind: 6},
			{Kind: math.MaxInt},
			{Kind: kind},
			{Kind: kind, Regions: []int{0}},
			{Kind: kind, Elem: []api.RType{rInt()}},
			rTo(api.KindInt, rInt()),
			rTo(api.KindBool, rInt()),
			rTo(api.KindUnit, rInt()),
			rTo(api.KindStruct, rInt()),
			rTo(kind, rInt(), 1, 2),
			rTo(kind, rInt(), 6),
			rNamed("S", -1),
		} {
			mayType(t, x, false)
			mayType(t, rTo(kind, x, 1), false)
			mayType(t, rTo(kind, rTo(9-kind, x, 1), 1), false)
		}
		mayType(t, rTo(kind, api.RType{}, 0), true)
	}
}

// deepType is so deep; what refers to none is 1 deep.
func deepType(n int, last api.RType) api.RType {
	for i := range n - 1 {
		last = rTo(api.KindRef+i%2, last, i%6)
	}
	return last
}

// 16.1: 64 within one another, and no more.
func TestDeepTypes(t *testing.T) {
	for _, last := range []api.RType{rInt(), rBool(), {}, rNamed("S", 1, 2)} {
		for _, n := range []int{1, 2, 3, 62, 63, 64, 65, 66, 128, 1000, 1 << 16} {
			for _, place := range []int{0, 1, 3} {
				m := of()
				m.Locals[place].Type = deepType(n, last)
				may(t, fmt.Sprint(n, " types within one another"), m, n <= 64)
			}
		}
	}
	m := of()
	m.Locals[1].Type = deepType(64, api.RType{Kind: 6})
	may(t, "64 types within one another, the last one wrong", m, false)
	m.Locals[1].Type = deepType(63, rTo(api.KindRef, rInt()))
	may(t, "64 types within one another, the last reference without a number", m, false)
}
