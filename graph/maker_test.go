package graph_test

import (
	"math/rand"
	"slices"
	"testing"

	"usufruct/api"
	"usufruct/graph"
)

// maker makes graphs by chance: some have rings, some may not be.
type maker struct{ r *rand.Rand }

func newMaker(seed int64) maker { return maker{rand.New(rand.NewSource(seed))} }

func (m maker) oneIn(n int) bool { return m.r.Intn(n) == 0 }

// graph makes one that may be: rows of needs without rings under names that are mixed, and, in half of them, a few needs more.
func (m maker) graph() [][]int {
	n := m.r.Intn(9)
	if m.oneIn(10) {
		n = m.r.Intn(65)
	}
	deps := make([][]int, n)
	places := m.r.Perm(n)
	dense := 1 + m.r.Intn(3)
	for i := range n {
		for range m.r.Intn(dense + 1) {
			if i > 0 {
				deps[places[i]] = append(deps[places[i]], places[m.r.Intn(i)])
			}
		}
	}
	if n > 0 && m.oneIn(2) {
		for range 2 + m.r.Intn(4) {
			i := m.r.Intn(n)
			deps[i] = append(deps[i], m.r.Intn(n))
		}
	}
	for _, l := range deps {
		m.r.Shuffle(len(l), func(i, j int) { l[i], l[j] = l[j], l[i] })
	}
	return deps
}

// spoilt makes a graph that may not be, mostly.
func (m maker) spoilt() [][]int {
	deps := m.graph()
	for range 1 + m.r.Intn(2) {
		if len(deps) == 0 {
			return make([][]int, 60+m.r.Intn(10))
		}
		i := m.r.Intn(len(deps))
		switch m.r.Intn(3) {
		case 0:
			deps[i] = slices.Insert(deps[i], m.r.Intn(len(deps[i])+1), []int{-1, len(deps), m.r.Intn(200) - 100}[m.r.Intn(3)])
		case 1:
			deps[i] = slices.Repeat([]int{m.r.Intn(len(deps) + 1)}, 63+m.r.Intn(4))
		case 2:
			for len(deps) < 63+m.r.Intn(4) {
				deps = append(deps, needs(m.r.Intn(len(deps)+1)))
			}
		}
	}
	return deps
}

// alike asks for all four calls at once.
func alike(t *testing.T, deps [][]int) api.Errno {
	t.Helper()
	code, at := wantError(deps)
	kept(t, deps, func() {
		switch code {
		case api.OK:
			ordered(t, deps, wantOrder(deps)...)
			levelled(t, deps, wantLevels(deps)...)
			ringed(t, deps)
		case api.ErrCycle:
			cycle(t, deps, wantRing(deps, at)...)
		default:
			wrong(t, deps, code, at)
			return
		}
		for i, want := range wantBelow(deps) {
			below(t, deps, i, want...)
		}
		below(t, deps, -1)
		below(t, deps, len(deps))
	})
	return code
}

func TestGraphsByChance(t *testing.T) {
	count := map[api.Errno]int{}
	for seed := range int64(20000) {
		count[alike(t, newMaker(seed).graph())]++
	}
	for seed := range int64(5000) {
		count[alike(t, newMaker(seed).spoilt())]++
	}
	for code, least := range map[api.Errno]int{api.OK: 5000, api.ErrCycle: 4000, api.ErrLong: 500, api.ErrRange: 500} {
		if count[code] < least {
			t.Errorf("only %d graphs of error %d: the maker is wrong", count[code], code)
		}
	}
}

// TestAllSmallGraphs has each graph of up to four things, their needs rising, and of up to three things with any two needs in any order.
func TestAllSmallGraphs(t *testing.T) {
	for n := range 5 {
		for set := range 1 << (n * n) {
			deps := make([][]int, n)
			for bit := range n * n {
				if set>>bit&1 == 1 {
					deps[bit/n] = append(deps[bit/n], bit%n)
				}
			}
			alike(t, deps)
		}
	}
	// Each thing has one of the lists of up to two needs, from -1 to 3.
	lists := [][]int{nil}
	for a := -1; a <= 3; a++ {
		lists = append(lists, needs(a))
		for b := -1; b <= 3; b++ {
			lists = append(lists, needs(a, b))
		}
	}
	for _, a := range lists {
		alike(t, things(a))
		for _, b := range lists {
			alike(t, things(a, b))
			for _, c := range lists {
				alike(t, things(a, b, c))
			}
		}
	}
}

func TestTheSameAgain(t *testing.T) {
	for seed := range int64(500) {
		deps := newMaker(seed).graph()
		order, _ := graph.Order(deps)
		levels, _ := graph.Levels(deps)
		ring := graph.Ring(deps)
		for range 3 {
			order2, _ := graph.Order(deps)
			levels2, _ := graph.Levels(deps)
			if !slices.Equal(order, order2) || !slices.Equal(levels, levels2) || !slices.Equal(ring, graph.Ring(deps)) {
				t.Fatalf("%s: another answer", short(deps))
			}
		}
	}
}

// Lists that share memory with each other are lists like others.
func TestListsThatShareMemory(t *testing.T) {
	all := upTo(64)
	deps := make([][]int, 64)
	for i := range deps {
		deps[i] = all[:i]
	}
	kept(t, deps, func() {
		ordered(t, deps, all...)
		levelled(t, deps, all...)
		below(t, deps, 40, all[:40]...)
	})
	for i := range deps {
		deps[i] = all
	}
	kept(t, deps, func() { cycle(t, deps, 0) })
}
