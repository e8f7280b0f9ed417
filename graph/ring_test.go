package graph_test

import (
	"math"
	"slices"
	"testing"

	"usufruct/api"
	"usufruct/graph"
)

func TestNoRing(t *testing.T) {
	for _, deps := range [][][]int{nil, things(), things(nil), row(7), full(7), make([][]int, 64), things(needs(1, 2), needs(3), needs(3), nil)} {
		ringed(t, deps)
	}
}

func TestRingOfOne(t *testing.T) {
	cycle(t, things(needs(0)), 0)
	cycle(t, things(nil, needs(1)), 1)
	cycle(t, things(nil, needs(0, 1), needs(1)), 1)
	cycle(t, things(needs(2), nil, needs(1, 2)), 2)
	// Whoever needs itself has no shorter way, whatever else it needs.
	cycle(t, things(needs(1, 0), needs(0)), 0)
	cycle(t, things(needs(1, 2, 0), needs(0), needs(1)), 0)
	// On the way a thing that needs itself is no nearer.
	cycle(t, things(needs(1), needs(1, 2), needs(0)), 0, 1, 2)
}

func TestRingsOfMore(t *testing.T) {
	cycle(t, things(needs(1), needs(0)), 0, 1)
	cycle(t, wheel(3), 0, 1, 2)
	cycle(t, things(needs(2), needs(0), needs(1)), 0, 2, 1)
	cycle(t, wheel(17), upTo(17)...)
	cycle(t, things(needs(3), needs(2), needs(0), needs(1)), 0, 3, 1, 2)
	cycle(t, web(5), 0)
}

func TestRingBeginsWithTheLeastThingOnOne(t *testing.T) {
	// Two rings: that of the lesser thing, be it longer.
	cycle(t, things(needs(2), needs(3), needs(4), needs(1), needs(0)), 0, 2, 4)
	cycle(t, things(nil, needs(4), needs(3), needs(2), needs(5), needs(1)), 1, 4, 5)
	cycle(t, things(needs(1), needs(2), needs(0), needs(3)), 0, 1, 2)
	// Things that need a ring are not on it, nor are those that it needs.
	cycle(t, things(needs(1), needs(2), needs(3), needs(2)), 2, 3)
	cycle(t, things(nil, needs(0, 2), needs(3, 0), needs(2, 0), needs(1)), 2, 3)
	cycle(t, things(needs(4), nil, needs(0), needs(4, 1), needs(3)), 3, 4)
	// One that lies between two rings.
	cycle(t, things(needs(3), needs(2), needs(0), needs(4, 5), needs(3), needs(5)), 3, 4)
	cycle(t, things(needs(1), needs(3), needs(4), needs(5), needs(2, 0), needs(5)), 2, 4)
}

func TestRingGoesTheShortestWay(t *testing.T) {
	cycle(t, things(needs(1, 3), needs(2), needs(0), needs(0)), 0, 3)
	cycle(t, things(needs(1), needs(2, 4), needs(3), needs(0), needs(0)), 0, 1, 4)
	cycle(t, things(needs(1, 5), needs(2), needs(3), needs(4), needs(0), needs(6), needs(0)), 0, 5, 6)
	// A need that does not lead back is none of the ring's, be it the least.
	cycle(t, things(needs(1, 2), nil, needs(1, 3), needs(1, 0)), 0, 2, 3)
	cycle(t, things(needs(2, 1), needs(1), needs(0)), 0, 2)
	longest := append(wheel(63), nil)
	longest[0] = needs(63, 1)
	cycle(t, longest, upTo(63)...)
	// The order in which needs are named does not matter.
	cycle(t, things(needs(3, 2, 1), needs(2, 0), needs(0, 3), needs(1)), 0, 1)
	cycle(t, things(needs(2, 3, 1), needs(4), needs(4), needs(4), needs(0)), 0, 1, 4)
}

func TestRingTakesTheLeastOfLikeWays(t *testing.T) {
	cycle(t, things(needs(1, 2), needs(0), needs(0)), 0, 1)
	cycle(t, things(needs(2, 1), needs(0), needs(0)), 0, 1)
	cycle(t, things(needs(3, 2), needs(0), needs(1), needs(1)), 0, 2, 1)
	cycle(t, things(needs(5), needs(0), needs(0), needs(0), nil, needs(4, 3, 2)), 0, 5, 2)
	// The least at each step, not the least ring as a whole: 1 leads by 4, 2 by 3.
	cycle(t, things(needs(2, 1), needs(4), needs(3), needs(0), needs(0)), 0, 1, 4)
	// Again and again.
	cycle(t, things(needs(2, 1), needs(4, 3), needs(3, 4), needs(6, 5), needs(5, 6), needs(0), needs(0)), 0, 1, 3, 5)
}

// TestWhoIsOnARingNeedsItself is 11.3, asked by itself.
func TestWhoIsOnARingNeedsItself(t *testing.T) {
	rings := 0
	for seed := range int64(3000) {
		deps := newMaker(seed).graph()
		ring := graph.Ring(deps)
		if len(ring) == 0 {
			continue
		}
		rings++
		if slices.Min(ring) != ring[0] || len(slices.Compact(slices.Sorted(slices.Values(ring)))) != len(ring) {
			t.Fatalf("11.2: %s: %v", short(deps), ring)
		}
		for at, i := range ring {
			if next := ring[(at+1)%len(ring)]; !slices.Contains(deps[i], next) {
				t.Fatalf("11.2: %s: %v: %d does not need %d", short(deps), ring, i, next)
			}
			if !slices.Contains(graph.Below(deps, i), i) {
				t.Fatalf("11.3: %s: %d of the ring %v is not below itself", short(deps), i, ring)
			}
		}
		for i := range ring[0] {
			if slices.Contains(graph.Below(deps, i), i) {
				t.Fatalf("11.3: %s: %d is below itself, but not on the ring %v", short(deps), i, ring)
			}
		}
	}
	if rings < 1000 {
		t.Errorf("only %d of 3000 graphs have a ring: the maker is wrong", rings)
	}
}

func TestBelow(t *testing.T) {
	below(t, things(nil), 0)
	below(t, things(nil, nil), 1)
	below(t, things(needs(1), nil), 0, 1)
	below(t, things(needs(1), nil), 1)
	for i := range 6 {
		below(t, row(6), i, upTo(6)[i+1:]...)
		below(t, full(6), i, upTo(i)...)
	}
	tree := things(needs(2, 1), needs(4, 3), needs(6, 5), nil, nil, nil, nil)
	below(t, tree, 0, 1, 2, 3, 4, 5, 6)
	below(t, tree, 1, 3, 4)
	below(t, tree, 2, 5, 6)
	below(t, tree, 6)
	// What two need is told once, and rising.
	below(t, things(needs(3, 1), needs(2), nil, needs(2)), 0, 1, 2, 3)
	below(t, things(nil, needs(0), needs(0), needs(2, 1)), 3, 0, 1, 2)
}

func TestBelowOfRings(t *testing.T) {
	below(t, things(needs(0)), 0, 0)
	below(t, things(needs(1), needs(0)), 0, 0, 1)
	below(t, things(needs(1), needs(0)), 1, 0, 1)
	deps := things(needs(1), needs(2, 5), needs(3), needs(1), needs(0), nil, needs(6))
	below(t, deps, 0, 1, 2, 3, 5)
	below(t, deps, 1, 1, 2, 3, 5)
	below(t, deps, 2, 1, 2, 3, 5)
	below(t, deps, 3, 1, 2, 3, 5)
	below(t, deps, 4, 0, 1, 2, 3, 5)
	below(t, deps, 5)
	below(t, deps, 6, 6)
	for i := range 9 {
		below(t, wheel(9), i, upTo(9)...)
		below(t, web(9), i, upTo(9)...)
	}
}

func TestBelowOfAThingThatThereIsNot(t *testing.T) {
	for _, i := range []int{-1, -2, 3, 4, 64, math.MinInt, math.MaxInt, 1 << 32} {
		below(t, things(needs(1), needs(2), needs(0)), i)
		below(t, nil, i)
		below(t, things(), i)
		below(t, make([][]int, 65), i)
		below(t, things(needs(7), nil, nil), i)
	}
	below(t, nil, 0)
	below(t, things(), 0)
}

func TestBelowOfWhatMayNotBe(t *testing.T) {
	// The wrong thing is none of those below.
	below(t, things(needs(1), nil, needs(3)), 0)
	below(t, things(needs(1), nil, needs(-1)), 0)
	below(t, things(needs(1), nil, make([]int, 65)), 0)
	below(t, row(65), 0)
	below(t, row(64), 0, upTo(64)[1:]...)
}

func TestAnswersAreTheCallersOwn(t *testing.T) {
	deps := things(needs(1), needs(2), nil)
	rings := things(needs(1), needs(2), needs(0))
	for range 2 {
		kept(t, deps, func() {
			order, _ := graph.Order(deps)
			levels, _ := graph.Levels(deps)
			for _, l := range [][]int{order, levels, graph.Below(deps, 0)} {
				spoil(l)
			}
		})
		kept(t, rings, func() {
			spoil(graph.Ring(rings))
			spoil(graph.Below(rings, 1))
		})
		ordered(t, deps, 2, 1, 0)
		levelled(t, deps, 2, 1, 0)
		below(t, deps, 0, 1, 2)
		ringed(t, rings, 0, 1, 2)
		refused(t, rings, api.ErrCycle, 0)
	}
	// An answer that equals what was handed in is no part of it.
	one := things(needs(1), nil)
	kept(t, one, func() { spoil(graph.Below(one, 0)) })
}

// spoil writes over a list, and behind its end as far as its memory goes.
func spoil(l []int) {
	l = l[:cap(l)]
	for i := range l {
		l[i] = -7
	}
}
