package scope

import "usufruct/api"

// order is which of a function's lifetimes outlive which. All of one name are one, with one number.
type order struct {
	numbers map[string]int
	over    [][]int
	reached [][]bool
}

// newOrder passes by those in an Over that are no lifetimes: they outlive nothing.
func newOrder(lives []api.Life) *order {
	o := &order{numbers: map[string]int{}}
	for _, life := range lives {
		addFirst(o.numbers, life.Name, len(o.numbers))
	}
	o.over = make([][]int, len(o.numbers))
	o.reached = make([][]bool, len(o.numbers))
	for _, life := range lives {
		i := o.numbers[life.Name]
		for _, name := range life.Over {
			if k, is := o.numbers[name]; is {
				o.over[i] = append(o.over[i], k)
			}
		}
	}
	return o
}

func (o *order) outlives(a, b string) bool {
	i, isA := o.numbers[a]
	k, isB := o.numbers[b]
	if !isA || !isB {
		return false
	}
	// One is asked for again and again by the types of a header.
	if o.reached[i] == nil {
		o.reached[i] = o.reach(i)
	}
	return o.reached[i][k]
}

// reach goes to each one once, so that rings end.
func (o *order) reach(from int) []bool {
	seen := make([]bool, len(o.over))
	seen[from] = true
	work := []int{from}
	for len(work) > 0 {
		i := work[len(work)-1]
		work = work[:len(work)-1]
		for _, k := range o.over[i] {
			if !seen[k] {
				seen[k] = true
				work = append(work, k)
			}
		}
	}
	return seen
}

func isSame(a, b string) bool { return a == b }

// isWell takes types without a fault (Type, not open), so that each reference has just one lifetime. It asks each only for what stands right within it: what outlives that outlives the reference as well, by steps.
func isWell(t api.Type, outlives func(a, b string) bool) bool {
	for refers(t.Kind) {
		around := t.Lives[0]
		t = t.Elem[0]
		for _, within := range t.Lives {
			if !outlives(within, around) {
				return false
			}
		}
	}
	return true
}

func lifeNames(l []api.Life) []string {
	var names []string
	for _, life := range l {
		names = append(names, life.Name)
	}
	return names
}

type set map[string]struct{}

func setOf(l []string) set {
	s := set{}
	for _, x := range l {
		s.add(x)
	}
	return s
}

// add tells whether it was not there.
func (s set) add(x string) bool {
	n := len(s)
	s[x] = struct{}{}
	return len(s) > n
}

func (s set) hasAll(l []string) bool {
	for _, x := range l {
		if _, is := s[x]; !is {
			return false
		}
	}
	return true
}
