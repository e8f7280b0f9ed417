package graph

import (
	"slices"

	"usufruct/api"
)

// away is more steps than there are to any thing, so that all that is reached is nearer.
const away = api.MaxCrates + 1

// walk goes from the starts on, and tells of each thing the fewest steps to it, or away.
func walk(next [][]int, starts []int) []int {
	steps := slices.Repeat([]int{away}, len(next))
	list := make([]int, 0, len(next)) // a thing comes onto the list once: this is its cap
	put := func(things []int, count int) {
		for _, i := range things {
			if steps[i] == away {
				steps[i] = count
				list = append(list, i)
			}
		}
	}
	put(starts, 0)
	for at := 0; at < len(list); at++ {
		i := list[at]
		put(next[i], steps[i]+1)
	}
	return steps
}

// firstOnRing is asked only where there is a ring, and so it ends.
func firstOnRing(deps [][]int) int {
	first := 0
	for !onRing(deps, first) {
		first++
	}
	return first
}

func onRing(deps [][]int, i int) bool {
	return walk(deps, deps[i])[i] != away
}

// usersOf turns needs round: of each thing those that need it, as often as they name it.
func usersOf(deps [][]int) [][]int {
	users := make([][]int, len(deps))
	for i, needs := range deps {
		for _, need := range needs {
			users[need] = append(users[need], i)
		}
	}
	return users
}
