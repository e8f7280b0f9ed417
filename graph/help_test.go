package graph_test

import (
	"fmt"
	"slices"
	"testing"

	"usufruct/api"
	"usufruct/fault"
	"usufruct/graph"
)

// needs are those of one thing.
func needs(l ...int) []int { return l }

func things(l ...[]int) [][]int { return l }

// row is a graph in which each thing but the last needs the next one.
func row(n int) [][]int {
	deps := make([][]int, n)
	for i := range n - 1 {
		deps[i] = needs(i + 1)
	}
	return deps
}

// wheel is a row whose last thing needs the first one.
func wheel(n int) [][]int {
	deps := row(n)
	deps[n-1] = needs(0)
	return deps
}

// full is a graph in which each thing needs all that are less.
func full(n int) [][]int {
	deps := make([][]int, n)
	for i := range n {
		deps[i] = upTo(i)
	}
	return deps
}

// web is a graph in which each thing needs all, itself too.
func web(n int) [][]int {
	deps := make([][]int, n)
	for i := range n {
		deps[i] = upTo(n)
	}
	return deps
}

func upTo(n int) []int {
	l := []int{}
	for i := range n {
		l = append(l, i)
	}
	return l
}

func turned(l []int) []int {
	l = slices.Clone(l)
	slices.Reverse(l)
	return l
}

// short keeps a large graph out of what a test tells.
func short(x any) string {
	s := fmt.Sprint(x)
	if len(s) > 300 {
		return s[:150] + " .. " + s[len(s)-150:]
	}
	return s
}

func isError(t *testing.T, what string, deps [][]int, err error, code api.Errno, at int) {
	t.Helper()
	if fault.Code(err) != code || !slices.Equal(fault.Path(err), []int{at}) || !fault.Is(err, code) {
		t.Fatalf("11.1: %s of %s: error %d at %v, not %d at %d", what, short(deps), fault.Code(err), fault.Path(err), code, at)
	}
}

func ordered(t *testing.T, deps [][]int, want ...int) {
	t.Helper()
	got, err := graph.Order(deps)
	if err != nil {
		t.Fatalf("11.1: Order of %s: error %d at %v", short(deps), fault.Code(err), fault.Path(err))
	}
	if !slices.Equal(got, want) {
		t.Fatalf("11.1: Order of %s: %v, not %v", short(deps), got, want)
	}
}

func levelled(t *testing.T, deps [][]int, want ...int) {
	t.Helper()
	got, err := graph.Levels(deps)
	if err != nil {
		t.Fatalf("11.1: Levels of %s: error %d at %v", short(deps), fault.Code(err), fault.Path(err))
	}
	if !slices.Equal(got, want) {
		t.Fatalf("11.1: Levels of %s: %v, not %v", short(deps), got, want)
	}
}

// refused asks that Order and Levels tell the error and nothing beside it.
func refused(t *testing.T, deps [][]int, code api.Errno, at int) {
	t.Helper()
	order, err := graph.Order(deps)
	isError(t, "Order", deps, err, code, at)
	levels, err := graph.Levels(deps)
	isError(t, "Levels", deps, err, code, at)
	if len(order) != 0 || len(levels) != 0 {
		t.Fatalf("11.1: %s: %v, %v beside an error", short(deps), order, levels)
	}
}

// wrong asks that a graph may not be: Ring and Below tell nothing of it.
func wrong(t *testing.T, deps [][]int, code api.Errno, at int) {
	t.Helper()
	refused(t, deps, code, at)
	ringed(t, deps)
	for i := range min(len(deps), 100) {
		below(t, deps, i)
	}
}

func ringed(t *testing.T, deps [][]int, want ...int) {
	t.Helper()
	if got := graph.Ring(deps); !slices.Equal(got, want) {
		t.Fatalf("11.2: Ring of %s: %v, not %v", short(deps), got, want)
	}
}

// cycle asks for a ring and for the error at its first thing.
func cycle(t *testing.T, deps [][]int, want ...int) {
	t.Helper()
	refused(t, deps, api.ErrCycle, want[0])
	ringed(t, deps, want...)
}

func below(t *testing.T, deps [][]int, i int, want ...int) {
	t.Helper()
	if got := graph.Below(deps, i); !slices.Equal(got, want) {
		t.Fatalf("11.2: Below of %s, %d: %v, not %v", short(deps), i, got, want)
	}
}

// kept asks that what is handed in stays as it was, also behind the lists' ends.
func kept(t *testing.T, deps [][]int, call func()) {
	t.Helper()
	before := copied(deps)
	call()
	if !slices.EqualFunc(copied(deps), before, slices.Equal) {
		t.Fatalf("changed: %s, not %s", short(copied(deps)), short(before))
	}
}

func copied(deps [][]int) [][]int {
	var all [][]int
	for _, l := range deps[:cap(deps)] {
		all = append(all, slices.Clone(l[:cap(l)]))
	}
	return all
}
