package types

import (
	"slices"

	"usufruct/api"
	"usufruct/scope"
)

// stepInto is the step to what a reference refers to; all others are names of fields.
const stepInto = "*"

// first is the first member as a list, so that one that is there and one that is not are gone through alike.
func first[T any](l []T) []T { return l[:min(1, len(l))] }

// own are a type's numbers without those of what it refers to.
func own(t *api.RType) []int {
	switch t.Kind {
	case api.KindStruct:
		return t.Regions
	case api.KindRef, api.KindMut:
		return first(t.Regions)
	}
	return nil
}

// within is what a reference refers to; nil of what refers to nothing.
func within(t *api.RType) *api.RType {
	if t.Kind != api.KindRef && t.Kind != api.KindMut || len(t.Elem) == 0 {
		return nil
	}
	return &t.Elem[0]
}

func copyOf(t api.RType) api.RType { return Subst(t, nil) }

// step answers what may share memory with t, as only the last step's answer is handed out.
func step(s *scope.Scope, t api.RType, name string) (api.RType, api.Errno) {
	if name != stepInto {
		return field(s, t, name)
	}
	x := within(&t)
	if x == nil {
		return api.RType{}, api.ErrType
	}
	return *x, api.OK
}

func field(s *scope.Scope, t api.RType, name string) (api.RType, api.Errno) {
	if t.Kind != api.KindStruct {
		return api.RType{}, api.ErrType
	}
	x, is := s.Struct(t.Name)
	if !is {
		return api.RType{}, api.ErrType
	}
	i := slices.IndexFunc(x.Fields, func(f api.Field) bool { return f.Name == name })
	if i < 0 {
		return api.RType{}, api.ErrName
	}
	// A sig's struct may leave lifetimes out: the numbers behind its own are free.
	lifted, _ := Lift(s, x.Fields[i].Type, x.Lives, len(x.Lives))
	return Subst(lifted, t.Regions), api.OK
}

// ask takes types that are the same, so that each number has one to be held against. Within a mutable reference both have to outlive each other, as either may be put where the other one was.
func ask(a, b *api.RType) [][2]int {
	var pairs [][2]int
	both := false
	for a != nil {
		bothWithin := both
		switch a.Kind {
		case api.KindStruct:
			pairs = pairUp(pairs, own(a), own(b), true)
		case api.KindMut:
			bothWithin = true
			fallthrough
		case api.KindRef:
			pairs = pairUp(pairs, own(a), own(b), both)
		}
		a, b, both = within(a), within(b), bothWithin
	}
	return pairs
}

func pairUp(pairs [][2]int, a, b []int, both bool) [][2]int {
	for i := range a {
		pairs = append(pairs, [2]int{a[i], b[i]})
		if both {
			pairs = append(pairs, [2]int{b[i], a[i]})
		}
	}
	return pairs
}
