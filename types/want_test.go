package types_test

import (
	"fmt"
	"reflect"
	"slices"
	"strconv"
	"strings"
	"testing"

	"usufruct/api"
	"usufruct/scope"
	"usufruct/types"
)

// The same calls, told in other ways: lifetimes that are left out are written first and numbered then, all numbers become one where they are not asked, paths are gone from the end, and pairs are told by the chapter's own steps, one within the other.

// wantLift writes what is left out as #0, #1 and so on; no other lifetime's name begins so.
func wantLift(s *scope.Scope, t api.Type, lives []string, next int) (api.RType, int) {
	count := 0
	written := allWritten(s, t, &count)
	return numbered(written, lives, next), next + count
}

func allWritten(s *scope.Scope, t api.Type, count *int) api.Type {
	out := api.Type{Kind: t.Kind, Name: t.Name}
	lacks := 0
	switch t.Kind {
	case api.KindStruct:
		out.Lives = t.Lives
		if x, is := s.Struct(t.Name); is && len(t.Lives) == 0 {
			lacks = len(x.Lives)
		}
	case api.KindRef, api.KindMut:
		if len(t.Lives) == 0 {
			lacks = 1
		} else {
			out.Lives = t.Lives[:1]
		}
	}
	for range lacks {
		out.Lives = append(out.Lives, "#"+strconv.Itoa(*count))
		*count++
	}
	if (t.Kind == api.KindRef || t.Kind == api.KindMut) && len(t.Elem) > 0 {
		out.Elem = []api.Type{allWritten(s, t.Elem[0], count)}
	}
	return out
}

func numbered(t api.Type, lives []string, next int) api.RType {
	out := api.RType{Kind: t.Kind, Name: t.Name}
	for _, name := range t.Lives {
		place := slices.Index(lives, name)
		if digits, is := strings.CutPrefix(name, "#"); is {
			place, _ = strconv.Atoi(digits)
			place += next
		}
		out.Regions = append(out.Regions, place)
	}
	for _, x := range t.Elem {
		out.Elem = append(out.Elem, numbered(x, lives, next))
	}
	return out
}

func isRef(t api.RType) bool { return t.Kind == api.KindRef || t.Kind == api.KindMut }

func wantRegions(t api.RType) []int {
	switch {
	case t.Kind == api.KindStruct:
		return t.Regions
	case isRef(t):
		var l []int
		if len(t.Regions) > 0 {
			l = []int{t.Regions[0]}
		}
		if len(t.Elem) > 0 {
			l = append(l, wantRegions(t.Elem[0])...)
		}
		return l
	}
	return nil
}

// mapped is a copy in which each number has become another one.
func mapped(t api.RType, to func(i int) int) api.RType {
	t = clone(t)
	each(reflect.ValueOf(&t).Elem(), func(v reflect.Value) {
		if l, is := v.Interface().([]int); is {
			for i := range l {
				l[i] = to(l[i])
			}
		}
	})
	return t
}

func wantSame(a, b api.RType) bool {
	nought := func(int) int { return 0 }
	return reflect.DeepEqual(mapped(a, nought), mapped(b, nought))
}

func wantSubst(t api.RType, m []int) api.RType {
	return mapped(t, func(i int) int {
		for from, to := range m {
			if i == from {
				return to
			}
		}
		return i
	})
}

func wantCopy(t api.RType) bool {
	return slices.Contains([]int{api.KindInt, api.KindBool, api.KindRef}, t.Kind)
}

// wantAt goes the last step behind all others.
func wantAt(s *scope.Scope, t api.RType, path []string) (api.RType, api.Errno, int) {
	if len(path) == 0 {
		return t, api.OK, 0
	}
	at := len(path) - 1
	x, code, place := wantAt(s, t, path[:at])
	if code != api.OK {
		return api.RType{}, code, place
	}
	if path[at] == "*" {
		if !isRef(x) || len(x.Elem) == 0 {
			return api.RType{}, api.ErrType, at
		}
		return x.Elem[0], api.OK, 0
	}
	of, is := s.Struct(x.Name)
	if x.Kind != api.KindStruct || !is {
		return api.RType{}, api.ErrType, at
	}
	for _, f := range of.Fields {
		if f.Name == path[at] {
			to, _ := wantLift(s, f.Type, of.Lives, len(of.Lives))
			return wantSubst(to, x.Regions), api.OK, 0
		}
	}
	return api.RType{}, api.ErrName, at
}

type pair = [2]int

func wantBoth(a, b []int) []pair {
	var l []pair
	for i := range a {
		l = append(l, pair{a[i], b[i]}, pair{b[i], a[i]})
	}
	return l
}

func wantSub(a, b api.RType) []pair {
	if !wantSame(a, b) {
		return nil
	}
	var l []pair
	if isRef(a) && len(a.Regions) > 0 {
		l = []pair{{a.Regions[0], b.Regions[0]}}
	}
	switch {
	case a.Kind == api.KindStruct:
		return wantBoth(a.Regions, b.Regions)
	case a.Kind == api.KindRef && len(a.Elem) > 0:
		return append(l, wantSub(a.Elem[0], b.Elem[0])...)
	case a.Kind == api.KindMut && len(a.Elem) > 0:
		return append(l, wantBoth(wantRegions(a.Elem[0]), wantRegions(b.Elem[0]))...)
	}
	return l
}

func wantWell(t api.RType) []pair {
	var l []pair
	if !isRef(t) || len(t.Elem) == 0 {
		return nil
	}
	if len(t.Regions) > 0 {
		for _, q := range wantRegions(t.Elem[0]) {
			l = append(l, pair{q, t.Regions[0]})
		}
	}
	return append(l, wantWell(t.Elem[0])...)
}

// follow are all pairs that follow from some, one behind the other.
func follow(l []pair) map[pair]bool {
	facts := map[pair]bool{}
	for _, p := range l {
		facts[p] = true
	}
	for n := -1; n < len(facts); {
		n = len(facts)
		var more []pair
		for p := range facts {
			for q := range facts {
				if p[1] == q[0] {
					more = append(more, pair{p[0], q[1]})
				}
			}
		}
		for _, p := range more {
			facts[p] = true
		}
	}
	return facts
}

// asked holds the calls of one type against the other way of telling them.
func asked(t *testing.T, x api.RType) {
	t.Helper()
	if l := types.Regions(x); !alike(l, wantRegions(x)) {
		t.Fatalf("14.2: Regions(%s): %v", short(x), l)
	}
	if is := types.Copy(x); is != wantCopy(x) {
		t.Fatalf("14.2: Copy(%s): %t", short(x), is)
	}
	for _, m := range [][]int{nil, {7}, {5, -9}, {2, 0, 1}, {3, 3, 3, 3, 0, 1, 9, -1, 4}} {
		if y := types.Subst(x, m); !alike(y, wantSubst(x, m)) {
			t.Fatalf("14.2: Subst(%s, %v): %s", short(x), m, short(y))
		}
	}
	if l := types.Well(x); !alike(l, wantWell(x)) {
		t.Fatalf("14.4: Well(%s): %v, not %v", short(x), l, wantWell(x))
	}
	isItself(t, x)
}

// isItself asks what is promised of a type and itself.
func isItself(t *testing.T, x api.RType) {
	t.Helper()
	if !types.Same(x, clone(x)) {
		t.Fatalf("14.2: Same(%s, itself): false", short(x))
	}
	numbers := map[int]bool{}
	for _, p := range types.Sub(x, clone(x)) {
		if p[0] != p[1] {
			t.Fatalf("14.5: Sub(%s, itself): %v", short(x), p)
		}
		numbers[p[0]] = true
	}
	for _, q := range wantRegions(x) {
		if !numbers[q] {
			t.Fatalf("14.4: Sub(%s, itself) does not ask for %d", short(x), q)
		}
	}
}

// askedBoth holds the calls of two types against the other way of telling them.
func askedBoth(t *testing.T, a, b api.RType) bool {
	t.Helper()
	same := wantSame(a, b)
	if types.Same(a, b) != same {
		t.Fatalf("14.2: Same(%s, %s): %t", short(a), short(b), !same)
	}
	if l := types.Sub(a, b); !alike(l, wantSub(a, b)) {
		t.Fatalf("14.4: Sub(%s, %s): %v, not %v", short(a), short(b), l, wantSub(a, b))
	}
	return same
}

// askedThree asks that what a and b, b and c ask lets what a and c ask follow.
func askedThree(t *testing.T, a, b, c api.RType) {
	t.Helper()
	facts := follow(append(types.Sub(a, b), types.Sub(b, c)...))
	for _, p := range types.Sub(a, c) {
		if !facts[p] {
			t.Fatalf("14.5: %s, %s, %s: %v does not follow", short(a), short(b), short(c), p)
		}
	}
}

// walked holds At against the other way of telling it.
func walked(t *testing.T, s *scope.Scope, x api.RType, path []string) (api.RType, api.Errno) {
	t.Helper()
	what := fmt.Sprintf("14.3: At(%s, %v)", short(x), short(path))
	y, err := types.At(s, x, path)
	want, code, at := wantAt(s, x, path)
	isError(t, what, err, code, at)
	if !alike(y, want) {
		t.Fatalf("%s: %s, not %s", what, short(y), short(want))
	}
	return y, code
}

// lifted holds Lift against the other way of telling it.
func lifted(t *testing.T, s *scope.Scope, x api.Type, lives []string, next int) api.RType {
	t.Helper()
	y, behind := types.Lift(s, x, lives, next)
	want, wantBehind := wantLift(s, x, lives, next)
	if !alike(y, want) || behind != wantBehind {
		t.Fatalf("14.1: Lift(%s, %v, %d): %s, %d, not %s, %d", short(x), short(lives), next, short(y), behind, short(want), wantBehind)
	}
	return y
}
