package graph_test

import (
	"math"
	"slices"
	"testing"

	"usufruct/api"
	"usufruct/graph"
)

func TestOrder(t *testing.T) {
	ordered(t, nil)
	ordered(t, things())
	ordered(t, things(nil), 0)
	ordered(t, things(needs()), 0)
	ordered(t, things(nil, needs(), nil), 0, 1, 2)
	ordered(t, things(needs(1), nil), 1, 0)
	ordered(t, things(nil, needs(0)), 0, 1)
	ordered(t, row(5), 4, 3, 2, 1, 0)
	ordered(t, full(5), 0, 1, 2, 3, 4)
	// A tree, from its root on and towards it.
	ordered(t, things(needs(1, 2), needs(3, 4), needs(5, 6), nil, nil, nil, nil), 3, 4, 1, 5, 6, 2, 0)
	ordered(t, things(nil, needs(0), needs(0), needs(1), needs(1), needs(2), needs(2)), 0, 1, 2, 3, 4, 5, 6)
	// Two that share what they need.
	ordered(t, things(needs(2, 1), needs(3), needs(3), nil), 3, 1, 2, 0)
	ordered(t, things(needs(3), needs(3, 0), needs(0, 3), nil), 3, 0, 1, 2)
}

func TestOrderTakesTheLeastThatCouldComeNext(t *testing.T) {
	// Behind 2 come 0 and then 1, though 3 and 4 were there ahead of them.
	ordered(t, things(needs(2), needs(0), nil, nil, nil), 2, 0, 1, 3, 4)
	// Behind 1 nothing less is free, behind 4 comes 0.
	ordered(t, things(needs(4), nil, nil, needs(0), nil), 1, 2, 4, 0, 3)
	// 5 frees three at once, 0 frees 2 ahead of 3 and 4.
	ordered(t, things(needs(5), nil, needs(0), needs(5), needs(5), nil), 1, 5, 0, 2, 3, 4)
	// Not level by level: 0 is of level 2, 3 of level 0.
	ordered(t, things(needs(2), nil, needs(1), nil), 1, 2, 0, 3)
	// Not each thing's needs ahead of the next thing: 1 is there ahead of 0, which needs 2.
	ordered(t, things(needs(2), nil, nil), 1, 2, 0)
}

func TestOrderTakesANeedThatIsNamedTwice(t *testing.T) {
	ordered(t, things(needs(1, 1), nil), 1, 0)
	ordered(t, things(needs(1, 2, 1, 1), needs(2, 2), nil), 2, 1, 0)
	ordered(t, things(needs(2, 1, 2), nil, nil, needs(0, 0)), 1, 2, 0, 3)
	levelled(t, things(needs(1, 2, 1, 1), needs(2, 2), nil), 2, 1, 0)
	cycle(t, things(needs(1, 1), needs(0, 0)), 0, 1)
	cycle(t, things(needs(0, 0)), 0)
	below(t, things(needs(1, 1, 1), nil), 0, 1)
}

func TestLevels(t *testing.T) {
	levelled(t, nil)
	levelled(t, things())
	levelled(t, things(nil), 0)
	levelled(t, things(nil, needs(), nil), 0, 0, 0)
	levelled(t, things(needs(1), nil), 1, 0)
	levelled(t, row(5), 4, 3, 2, 1, 0)
	levelled(t, full(5), 0, 1, 2, 3, 4)
	levelled(t, things(needs(1, 2), needs(3, 4), needs(5, 6), nil, nil, nil, nil), 2, 1, 1, 0, 0, 0, 0)
	// The greatest level of the needs, wherever it stands among them.
	levelled(t, things(nil, needs(0), needs(1), needs(0, 2), needs(2, 0), needs(0, 2, 1), nil), 0, 1, 2, 3, 3, 3, 0)
	levelled(t, things(needs(3, 1), nil, needs(1), needs(2)), 3, 0, 1, 2)
}

func TestMostThingsAndNeeds(t *testing.T) {
	all := upTo(api.MaxCrates)
	for _, deps := range [][][]int{make([][]int, 64), row(64), full(64)} {
		want := all
		if len(deps[0]) > 0 {
			want = turned(all)
		}
		ordered(t, deps, want...)
	}
	levelled(t, row(64), turned(all)...)
	levelled(t, full(64), all...)
	levelled(t, make([][]int, 64), make([]int, 64)...)
	below(t, full(64), 63, upTo(63)...)
	below(t, row(64), 62, 63)
	cycle(t, wheel(64), all...)
	cycle(t, web(64), 0)
	below(t, web(64), 63, all...)
	// The 64 needs of one thing may be one thing.
	many := things(make([]int, 64))
	cycle(t, many, 0)
	many = things(nil, make([]int, 64))
	ordered(t, many, 0, 1)
	levelled(t, many, 0, 1)
	below(t, many, 1, 0)
	last := full(64)
	last[63] = append(last[63], 0)
	ordered(t, last, all...)
	last[62] = append(last[62], 63)
	cycle(t, last, 62, 63)
}

func TestTooManyThings(t *testing.T) {
	for _, n := range []int{65, 66, 1000} {
		wrong(t, make([][]int, n), api.ErrLong, 0)
		wrong(t, row(n), api.ErrLong, 0)
		wrong(t, wheel(n), api.ErrLong, 0)
	}
	wrong(t, make([][]int, 1<<20), api.ErrLong, 0)
}

func TestTooManyNeeds(t *testing.T) {
	wrong(t, things(make([]int, 65)), api.ErrLong, 0)
	wrong(t, things(nil, make([]int, 65)), api.ErrLong, 1)
	wrong(t, things(nil, make([]int, 64), make([]int, 66), make([]int, 65)), api.ErrLong, 2)
	wrong(t, things(make([]int, 64), make([]int, 1<<20)), api.ErrLong, 1)
	deps := full(64)
	deps[63] = make([]int, 65)
	wrong(t, deps, api.ErrLong, 63)
}

func TestNeedsThatThereAreNot(t *testing.T) {
	for _, need := range []int{-1, -2, 3, 4, 63, 64, 65, math.MinInt, math.MaxInt, 1 << 32, -1 << 32} {
		wrong(t, things(needs(need), nil, nil), api.ErrRange, 0)
		wrong(t, things(nil, nil, needs(need)), api.ErrRange, 2)
		wrong(t, things(nil, needs(0, need), needs(1)), api.ErrRange, 1)
		wrong(t, things(nil, needs(need, 0), needs(1)), api.ErrRange, 1)
		wrong(t, things(nil, needs(0, need, 0), needs(need)), api.ErrRange, 1)
	}
	ordered(t, things(needs(1, 2), needs(2), nil), 2, 1, 0)
	wrong(t, things(needs(1)), api.ErrRange, 0)
	deps := make([][]int, 64)
	deps[63] = needs(0, 64)
	wrong(t, deps, api.ErrRange, 63)
	deps[63] = needs(0, 62)
	levelled(t, deps, append(make([]int, 63), 1)...)
}

func TestTwoThingsWrongAtOnce(t *testing.T) {
	// Too many things ahead of all else.
	deps := make([][]int, 65)
	deps[1] = make([]int, 65)
	deps[2] = needs(-1)
	deps[3] = needs(3)
	wrong(t, deps, api.ErrLong, 0)
	// Too many needs ahead of a need that there is not, wherever these stand.
	wrong(t, things(needs(7), make([]int, 65)), api.ErrLong, 1)
	wrong(t, things(make([]int, 65), needs(7)), api.ErrLong, 0)
	wrong(t, things(needs(0), needs(-1), slices.Repeat(needs(9), 65)), api.ErrLong, 2)
	// These two ahead of a ring.
	wrong(t, things(needs(0), nil, make([]int, 65)), api.ErrLong, 2)
	wrong(t, things(needs(1), needs(0), needs(3)), api.ErrRange, 2)
	wrong(t, things(needs(0, 1)), api.ErrRange, 0)
}

// TestOrderHasEachThingOnce is 11.3, asked by itself.
func TestOrderHasEachThingOnce(t *testing.T) {
	right := 0
	for seed := range int64(3000) {
		deps := newMaker(seed).graph()
		order, err := graph.Order(deps)
		if err != nil {
			continue
		}
		right++
		sorted := slices.Sorted(slices.Values(order))
		if !slices.Equal(sorted, upTo(len(deps))) {
			t.Fatalf("11.3: %s: %v", short(deps), order)
		}
		for i, l := range deps {
			for _, need := range l {
				if slices.Index(order, need) >= slices.Index(order, i) {
					t.Fatalf("11.1: %s: %v: %d is not behind %d", short(deps), order, i, need)
				}
			}
		}
	}
	if right < 1000 {
		t.Errorf("only %d of 3000 graphs have an order: the maker is wrong", right)
	}
}
