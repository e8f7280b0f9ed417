package types_test

import (
	"math/rand"
	"slices"

	"usufruct/api"
)

// maker makes types by chance, of which some are such that no text means them.
type maker struct {
	r *rand.Rand
}

func newMaker(seed int64) *maker { return &maker{r: rand.New(rand.NewSource(seed))} }

// rare is true once in n.
func (m *maker) rare(n int) bool { return m.r.Intn(n) == 0 }

func (m *maker) pick(of ...string) string { return of[m.r.Intn(len(of))] }

func (m *maker) kind() int {
	if m.rare(20) {
		return m.r.Intn(12) - 3
	}
	return []int{api.KindInt, api.KindBool, api.KindStruct, api.KindStruct, api.KindRef, api.KindRef, api.KindMut, api.KindMut}[m.r.Intn(8)]
}

func (m *maker) name() string {
	return m.pick("N", "R", "S", "S", "V", "d::P", "d::T", "d::W", "o::L", "o::M", "o::D", "Z", "d::Z")
}

func (m *maker) life() string { return m.pick("a", "b", "c", "z") }

func (m *maker) lives() []string {
	return times(m.r.Intn(6), func(int) string { return m.life() })
}

// typeOf is a type that is at most so deep.
func (m *maker) typeOf(deep int) api.Type {
	t := api.Type{Kind: m.kind()}
	lives, elems := 0, 0
	switch t.Kind {
	case api.KindStruct:
		t.Name = m.name()
		if m.rare(2) {
			lives = m.r.Intn(4)
		}
	case api.KindRef, api.KindMut:
		lives, elems = m.r.Intn(2), 1
	}
	if m.rare(15) {
		t.Name, lives, elems = m.pick("", "S", "d::T", "x"), m.r.Intn(4), m.r.Intn(4)
	}
	t.Lives = times(lives, func(int) string { return m.life() })
	if deep > 1 {
		t.Elem = times(elems, func(int) api.Type { return m.typeOf(deep - 1) })
	}
	return t
}

func (m *maker) region() int { return m.r.Intn(9) - 2 }

func (m *maker) regions(n int) []int { return times(n, func(int) int { return m.region() }) }

// regionsOf is as many as a struct of that name has, for the most part.
func (m *maker) regionsOf(name string) []int {
	n := map[string]int{"R": 1, "S": 2, "V": 3, "d::T": 1, "d::W": 2, "o::L": 1, "o::M": 2, "o::D": 3}[name]
	if m.rare(15) {
		n = m.r.Intn(5)
	}
	return m.regions(n)
}

// rtypeOf is a type with numbers that is at most so deep.
func (m *maker) rtypeOf(deep int) api.RType {
	t := api.RType{Kind: m.kind()}
	regions, elems := 0, 0
	switch t.Kind {
	case api.KindStruct:
		t.Name = m.name()
		t.Regions = m.regionsOf(t.Name)
		return t
	case api.KindRef, api.KindMut:
		regions, elems = 1, 1
	}
	if m.rare(12) {
		t.Name, regions, elems = m.pick("", "S", "x"), m.r.Intn(4), m.r.Intn(4)
	}
	t.Regions = m.regions(regions)
	if deep > 1 {
		t.Elem = times(elems, func(int) api.RType { return m.rtypeOf(deep - 1) })
	}
	return t
}

// likely is the same type for the most part, with other numbers; else one that differs in a thing or all.
func (m *maker) likely(t api.RType) api.RType {
	t = mapped(t, func(int) int { return m.region() })
	if m.rare(4) {
		l := changes(t)
		return l[m.r.Intn(len(l))]
	}
	if m.rare(20) {
		return m.rtypeOf(3)
	}
	return t
}

var allSteps = []string{"*", "*", "n", "b", "f", "p", "t", "u", "w", "r", "q", "s", "v", "x", "y", "out", "none", "again", "bare", "lost", "few", "m", "g", "h", "z", ""}

// path goes on for as long as chance and its right steps let it; at times a wrong one is among them.
func (m *maker) path(right func(path []string) bool) []string {
	var path []string
	for range m.r.Intn(9) {
		next := append(slices.Clone(path), m.pick(allSteps...))
		for tries := 0; tries < 80 && !right(next) && !m.rare(200); tries++ {
			next[len(path)] = m.pick(allSteps...)
		}
		if !right(next) && !m.rare(3) {
			return path
		}
		path = next
	}
	return path
}
