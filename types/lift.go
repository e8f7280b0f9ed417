package types

import (
	"strings"

	"usufruct/api"
	"usufruct/scope"
)

// lifter gives out numbers: to a lifetime that is written its place, to one that is left out next.
type lifter struct {
	scope  *scope.Scope
	places map[string]int
	next   int
}

func placesOf(lives []string) map[string]int {
	places := map[string]int{}
	for i, name := range lives {
		if _, is := places[name]; !is {
			places[name] = i
		}
	}
	return places
}

func (l *lifter) lift(t api.Type) api.RType {
	out := api.RType{Kind: t.Kind, Name: strings.Clone(t.Name)}
	switch t.Kind {
	case api.KindStruct:
		out.Regions = l.written(t.Lives)
		if len(t.Lives) == 0 {
			out.Regions = l.leftOut(l.livesOf(t.Name))
		}
	case api.KindRef, api.KindMut:
		out.Regions = l.written(first(t.Lives))
		if len(t.Lives) == 0 {
			out.Regions = l.leftOut(1)
		}
		for _, x := range first(t.Elem) {
			out.Elem = append(out.Elem, l.lift(x))
		}
	}
	return out
}

func (l *lifter) written(lives []string) []int {
	var numbers []int
	for _, name := range lives {
		place, is := l.places[name]
		if !is {
			place = -1
		}
		numbers = append(numbers, place)
	}
	return numbers
}

func (l *lifter) leftOut(count int) []int {
	var numbers []int
	for range count {
		numbers = append(numbers, l.next)
		l.next++
	}
	return numbers
}

func (l *lifter) livesOf(name string) int {
	x, _ := l.scope.Struct(name)
	return len(x.Lives)
}
