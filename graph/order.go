package graph

// A count is how many of a thing's needs are not done yet, or one of these.
const (
	ready = 0
	done  = -1
)

// row is an order that grows.
type row struct {
	counts []int
	users  [][]int // who still waits for each thing
	order  []int
}

// inOrder leaves out what a ring keeps waiting.
func inOrder(deps [][]int) []int {
	r := row{counts: make([]int, len(deps)), users: usersOf(deps)}
	for i, needs := range deps {
		r.counts[i] = len(needs)
	}
	for i := 0; i < len(deps); {
		i = r.pass(i)
	}
	return r.order
}

// pass goes on with thing i as far as its count allows, and tells which thing to pass next: one ahead of which nothing is ready, so that the least comes first.
func (r *row) pass(i int) int {
	switch r.counts[i] {
	case ready:
		r.counts[i] = done
		r.order = append(r.order, i)
		fallthrough
	case done:
		return min(i+1, r.release(i))
	default:
		return i + 1
	}
}

// release lets nobody wait for thing i any more, and tells the least thing that gets ready by that.
func (r *row) release(i int) int {
	least := len(r.counts)
	for _, user := range r.users[i] {
		r.counts[user]--
		if r.counts[user] == ready {
			least = min(least, user)
		}
	}
	r.users[i] = nil // thing i may be passed again, but a need counts once
	return least
}
