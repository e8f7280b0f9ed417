package mir_test

import (
	"fmt"
	"reflect"
	"slices"
	"strings"
	"testing"

	"usufruct/api"
	"usufruct/mir"
)

// same asks Same both ways, and with empty lists that are not nil.
func same(t *testing.T, what string, a, b api.Mir, want bool) {
	t.Helper()
	if mir.Same(a, b) != want || mir.Same(b, a) != want || mir.Same(hollowed(a), b) != want || mir.Same(b, hollowed(a)) != want {
		t.Errorf("16.1: %s: Same is not %v", what, want)
	}
}

// stuff gives all within v values that are not zero, unlike each other where they can be, whatever Kinds there are; deep is how many times types may be within one another.
func stuff(v reflect.Value, deep int, next *int) {
	*next++
	switch v.Kind() {
	case reflect.Int:
		v.SetInt(int64(*next))
	case reflect.Bool:
		v.SetBool(true)
	case reflect.String:
		v.SetString(fmt.Sprint("t", *next))
	case reflect.Struct:
		for i := range v.NumField() {
			stuff(v.Field(i), deep, next)
		}
	case reflect.Array:
		for i := range v.Len() {
			stuff(v.Index(i), deep, next)
		}
	case reflect.Slice:
		if v.Type().Elem() == reflect.TypeFor[api.RType]() {
			deep--
		}
		if deep < 0 {
			return
		}
		v.Set(reflect.MakeSlice(v.Type(), 2, 3))
		for i := range v.Len() {
			stuff(v.Index(i), deep, next)
		}
	}
}

// stuffed has something in every field that there is.
func stuffed() api.Mir {
	var m api.Mir
	next := 0
	stuff(reflect.ValueOf(&m).Elem(), 2, &next)
	return m
}

// anotherText is one more byte, none, or others as many.
func anotherTexts(s string) []string {
	l := []string{s + "x", "x" + s, "*"}
	if s != "" {
		l = append(l, "", strings.ToUpper(s), s[1:], s[:len(s)-1])
	}
	return slices.DeleteFunc(l, func(x string) bool { return x == s })
}

// changes are ways to change what is not a struct by itself.
func changes(v reflect.Value) []func(v reflect.Value) {
	var l []func(v reflect.Value)
	switch v.Kind() {
	case reflect.Int:
		for _, n := range []int64{v.Int() + 1, v.Int() - 1, -v.Int() - 7, v.Int() + 1<<32, v.Int() ^ -1<<63} {
			l = append(l, func(v reflect.Value) { v.SetInt(n) })
		}
	case reflect.Bool:
		l = append(l, func(v reflect.Value) { v.SetBool(!v.Bool()) })
	case reflect.String:
		for _, s := range anotherTexts(v.String()) {
			l = append(l, func(v reflect.Value) { v.SetString(s) })
		}
	case reflect.Slice:
		l = append(l, func(v reflect.Value) { v.Set(reflect.Append(v, reflect.New(v.Type().Elem()).Elem())) })
		if v.Len() > 0 {
			l = append(l,
				func(v reflect.Value) { v.SetZero() },
				func(v reflect.Value) { v.Set(v.Slice(0, v.Len()-1)) },
				func(v reflect.Value) { v.Set(v.Slice(1, v.Len())) },
				func(v reflect.Value) { v.Set(reflect.Append(v, v.Index(v.Len()-1))) })
		}
	}
	return l
}

// 16.1: each field by itself, in functions that may be and in such that may not.
func TestSameAsksEachField(t *testing.T) {
	for what, m := range map[string]api.Mir{"full": full(), "stuffed": stuffed(), "none": {}, "zeros": {Known: make([][2]int, 1), Locals: make([]api.Local, 1), Code: make([]api.Inst, 1)}} {
		same(t, what, m, clone(m), true)
		tried := 0
		each(reflect.ValueOf(&m).Elem(), "", func(path string, v reflect.Value) {
			for i, change := range changes(v) {
				tried++
				same(t, fmt.Sprint(what, ": ", path, " ", i), m, with(m, path, change), false)
			}
		})
		if tried < 11 {
			t.Errorf("16.1: %s: only %d changes were tried", what, tried)
		}
	}
}

// 16.1: nil and empty lists are one, in each list by itself.
func TestSameOfNilAndEmptyLists(t *testing.T) {
	m := api.Mir{
		Locals: []api.Local{{Type: rTo(api.KindRef, api.RType{})}, {Type: api.RType{Elem: make([]api.RType, 1)}}},
		Code:   []api.Inst{{}, {Value: api.MValue{Args: make([]api.MOper, 1)}}},
	}
	tried := 0
	for _, x := range []api.Mir{{}, m, full()} {
		for _, path := range spots(clone(x), reflect.Slice) {
			empty := with(x, path, func(v reflect.Value) {
				if v.Len() == 0 {
					tried++
					v.Set(reflect.MakeSlice(v.Type(), 0, 1))
				}
			})
			same(t, "an empty list: "+path, x, empty, true)
			if !mir.Same(empty, empty) {
				t.Errorf("16.1: an empty list: %s: it is not the Same as itself", path)
			}
		}
		same(t, "empty lists", x, hollowed(x), true)
		if mir.May(x) != mir.May(hollowed(x)) {
			t.Error("16.1: May of empty lists")
		}
	}
	if tried < 100 {
		t.Errorf("16.1: only %d empty lists were tried", tried)
	}
}

// Members that change places are others.
func TestSameAsksTheOrder(t *testing.T) {
	m := stuffed()
	for _, path := range spots(m, reflect.Slice) {
		same(t, path, m, with(m, path, func(v reflect.Value) {
			if v.Len() > 1 {
				reflect.Swapper(v.Interface())(0, 1)
			} else {
				v.Set(reflect.MakeSlice(v.Type(), 1, 1))
			}
		}), false)
	}
}

func TestSameLeavesWhatItIsHanded(t *testing.T) {
	for _, m := range []api.Mir{{}, full(), hollowed(full()), stuffed()} {
		kept(t, "16.1: Same", m, func(m api.Mir) { mir.Same(m, full()) })
		kept(t, "16.1: Same", m, func(m api.Mir) { mir.Same(full(), m) })
		kept(t, "16.1: Same", m, func(m api.Mir) { mir.Same(m, m) })
	}
}

// Lists with room behind their ends are these lists up to their ends alone.
func TestSameWithRoomBehindTheEnd(t *testing.T) {
	a, b := full(), full()
	steps := []string{"f", "g"}
	a.Code[0].To.Steps, b.Code[0].To.Steps = steps[:1], []string{"f"}
	same(t, "room", a, b, true)
	a.Code = append(a.Code, a.Code[0])[:len(b.Code)]
	same(t, "room", a, b, true)
}

func TestSameByChance(t *testing.T) {
	m := newMaker(161)
	for range 1500 {
		a, b := m.mir(), m.mir()
		same(t, "a copy", a, clone(a), true)
		same(t, short(a)+" and "+short(b), a, b, alike(a, b))
		for range 4 {
			b = m.spoil(a)
			same(t, short(a)+" and "+short(b), a, b, alike(a, b))
		}
	}
}

// Types that may not be have many within them, and one another.
func TestSameOfDeepTypes(t *testing.T) {
	deep := func(n int, last api.RType) api.Mir {
		x := last
		for range n {
			x = rTo(api.KindRef, x, 0)
		}
		return api.Mir{Locals: []api.Local{{Type: x}}}
	}
	const most = 1<<16 - 2
	if !mir.Same(deep(most, rInt()), deep(most, rInt())) {
		t.Error("16.1: deep types")
	}
	for _, m := range []api.Mir{deep(most, rBool()), deep(most, rNamed("S")), deep(most-1, rInt()), deep(most+1, rInt())} {
		if mir.Same(deep(most, rInt()), m) || mir.Same(m, deep(most, rInt())) {
			t.Error("16.1: deep types that differ at their end")
		}
	}
}
