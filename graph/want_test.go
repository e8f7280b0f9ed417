package graph_test

import (
	"slices"

	"usufruct/api"
)

// What the chapter asks for, told another way: by a table of the fewest needs from each thing to each.

// none is more than all numbers of needs.
const none = 1 << 20

// fewest tells of each two things by how many needs, at least one, the first leads to the second.
func fewest(deps [][]int) [][]int {
	n := len(deps)
	table := make([][]int, n)
	for i := range n {
		table[i] = slices.Repeat([]int{none}, n)
		for _, need := range deps[i] {
			table[i][need] = 1
		}
	}
	for k := range n {
		for i := range n {
			for j := range n {
				table[i][j] = min(table[i][j], table[i][k]+table[k][j])
			}
		}
	}
	return table
}

func wantError(deps [][]int) (api.Errno, int) {
	if len(deps) > 64 {
		return api.ErrLong, 0
	}
	if i := slices.IndexFunc(deps, func(l []int) bool { return len(l) > 64 }); i >= 0 {
		return api.ErrLong, i
	}
	for i, l := range deps {
		if len(l) > 0 && (slices.Min(l) < 0 || slices.Max(l) >= len(deps)) {
			return api.ErrRange, i
		}
	}
	for i, l := range fewest(deps) {
		if l[i] < none {
			return api.ErrCycle, i
		}
	}
	return api.OK, 0
}

// wantOrder looks, for each place, through all things that are not there yet.
func wantOrder(deps [][]int) []int {
	var order []int
	for range deps {
		for i := range deps {
			lacks := slices.ContainsFunc(deps[i], func(need int) bool { return !slices.Contains(order, need) })
			if !lacks && !slices.Contains(order, i) {
				order = append(order, i)
				break
			}
		}
	}
	return order
}

// wantLevels raises levels as long as one is too low.
func wantLevels(deps [][]int) []int {
	levels := make([]int, len(deps))
	for range deps {
		for i, l := range deps {
			for _, need := range l {
				levels[i] = max(levels[i], levels[need]+1)
			}
		}
	}
	return levels
}

func wantRing(deps [][]int, first int) []int {
	table := fewest(deps)
	table[first][first] = 0
	ring := []int{first}
	for last := first; ; {
		next, steps := -1, none
		for i := range deps {
			if slices.Contains(deps[last], i) && table[i][first] < steps {
				next, steps = i, table[i][first]
			}
		}
		if next == first {
			return ring
		}
		ring = append(ring, next)
		last = next
	}
}

// wantBelow is told of all things at once.
func wantBelow(deps [][]int) [][]int {
	all := make([][]int, len(deps))
	for i, l := range fewest(deps) {
		for j, steps := range l {
			if steps < none {
				all[i] = append(all[i], j)
			}
		}
	}
	return all
}
