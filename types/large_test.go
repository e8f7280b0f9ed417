package types_test

import (
	"slices"
	"strconv"
	"testing"

	"usufruct/api"
	"usufruct/types"
)

// most is how many parts may be nested in one another.
const most = 1 << 16

func deepType(n int) api.Type {
	t := named("S")
	for i := range n - 1 {
		if i%2 == 0 {
			t = ref(t)
		} else {
			t = mutRef(t, "a")
		}
	}
	return t
}

// 14.1 to 14.4
func TestDeepTypes(t *testing.T) {
	s := scoped(t)
	x, next := types.Lift(s, deepType(most), []string{"a"}, 5)
	if next != 5+most/2+2 {
		t.Fatalf("14.1: next %d", next)
	}
	numbers := types.Regions(x)
	if len(numbers) != most+1 || !slices.Equal(numbers[:5], []int{5, 0, 6, 0, 7}) || !slices.Equal(numbers[most-2:], []int{next - 3, next - 2, next - 1}) {
		t.Fatalf("14.2: %d numbers: %v .. %v", len(numbers), numbers[:5], numbers[most-2:])
	}
	y := types.Subst(x, []int{-1})
	if !types.Same(x, y) || types.Regions(y)[1] != -1 {
		t.Fatal("14.2: Subst, Same")
	}
	if l := types.Sub(x, y); len(l) != 2*(most+1)-2 || l[0] != (pair{5, 5}) || l[1] != (pair{0, -1}) || l[2] != (pair{6, 6}) || l[3] != l[2] {
		t.Fatalf("14.4: %d pairs: %v", len(l), l[:4])
	}
	z, err := types.At(s, x, slices.Repeat([]string{"*"}, most-1))
	isError(t, "14.3: a deep type", err, api.OK, 0)
	isShown(t, "14.3: a deep type", z, "S<"+strconv.Itoa(next-2)+", "+strconv.Itoa(next-1)+">")
	_, err = types.At(s, x, slices.Repeat([]string{"*"}, most))
	isError(t, "14.3: a deep type", err, api.ErrType, most-1)
}

// References without numbers of their own ask nothing, however many there are.
func TestDeepTypesWithoutNumbers(t *testing.T) {
	x := rNamed("S", 1, 2)
	for range most - 2 {
		x = rRef(x)
	}
	x = rMut(x, 0)
	if l := types.Well(x); !slices.Equal(l, []pair{{1, 0}, {2, 0}}) {
		t.Fatalf("14.4: Well: %v", l)
	}
	if l := types.Sub(x, x); !slices.Equal(l, []pair{{0, 0}, {1, 1}, {1, 1}, {2, 2}, {2, 2}}) {
		t.Fatalf("14.4: Sub: %v", l)
	}
}

func TestWellOfManyReferences(t *testing.T) {
	const n = 2000
	x := rInt()
	for i := n; i > 0; i-- {
		x = rRef(x, i)
	}
	l := types.Well(x)
	if len(l) != n*(n-1)/2 || l[0] != (pair{2, 1}) || l[n-2] != (pair{n, 1}) || l[n-1] != (pair{3, 2}) || l[len(l)-1] != (pair{n, n - 1}) {
		t.Fatalf("14.4: %d pairs", len(l))
	}
}

// Many lifetimes, in a struct and in lives: each is looked for but once.
func TestWideTypes(t *testing.T) {
	s := scoped(t)
	const n = 1 << 18
	names := times(n, func(i int) string { return "n" + strconv.Itoa(i) })
	back := slices.Clone(names)
	slices.Reverse(back)
	x, next := types.Lift(s, mutRef(named("V", back...)), append(names, back...), 9)
	if next != 10 || len(x.Elem[0].Regions) != n || x.Elem[0].Regions[0] != n-1 || x.Elem[0].Regions[n-1] != 0 {
		t.Fatalf("14.1: next %d, %d numbers", next, len(x.Elem[0].Regions))
	}
	y := types.Subst(x, times(n, func(i int) int { return -i }))
	if y.Regions[0] != -9 || y.Elem[0].Regions[0] != 1-n {
		t.Fatalf("14.2: %v, %d", y.Regions, y.Elem[0].Regions[0])
	}
	if l := types.Sub(x, y); len(l) != 2*n+1 || l[1] != (pair{n - 1, 1 - n}) || l[2] != (pair{1 - n, n - 1}) {
		t.Fatalf("14.4: %d pairs", len(l))
	}
	if l := types.Well(x); len(l) != n || l[0] != (pair{n - 1, 9}) {
		t.Fatalf("14.4: %d pairs", len(l))
	}
}

// A path of many steps, through a struct that stands within itself.
func TestLongPaths(t *testing.T) {
	s := scoped(t)
	const n = 100000
	path := slices.Repeat([]string{"g"}, n)
	x, err := types.At(s, rNamed("o::D", 7, 8, 9), path)
	isError(t, "14.3: a long path", err, api.OK, 0)
	isShown(t, "14.3: a long path", x, "o::D<7, 8, 7>")
	_, err = types.At(s, rNamed("o::D", 7, 8, 9), append(path, "z", "g"))
	isError(t, "14.3: a long path", err, api.ErrName, n)
}
