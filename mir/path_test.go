package mir_test

import (
	"fmt"
	"math"
	"slices"
	"strconv"
	"testing"

	"usufruct/api"
	"usufruct/mir"
)

// 16.2
func TestPrefixAndShallow(t *testing.T) {
	for _, x := range []struct {
		a, b            api.Path
		prefix, shallow bool
	}{
		{path(1), path(1), true, true},
		{path(0), path(0), true, true},
		{path(1), path(2), false, false},
		{path(2), path(1), false, false},
		{path(1), path(-1), false, false},
		{path(-1), path(-1, "f"), true, true},
		{path(1), path(11), false, false},
		{path(1), path(1, "f"), true, true},
		{path(1, "f"), path(1), false, false},
		{path(2), path(1, "f"), false, false},
		{path(1, "f"), path(1, "f"), true, true},
		{path(1, "f"), path(1, "g"), false, false},
		{path(1, "f"), path(2, "f"), false, false},
		{path(1, "f"), path(1, "ff"), false, false},
		{path(1, "ff"), path(1, "f"), false, false},
		{path(1, ""), path(1, "f"), false, false},
		{path(1), path(1, ""), true, true},
		{path(1, ""), path(1), false, false},
		{path(1, "f"), path(1, "f", "g", "h"), true, true},
		{path(1, "g"), path(1, "f", "g"), false, false},
		{path(1, "f", "h"), path(1, "f", "g", "h"), false, false},
		{path(1, "f", "g"), path(1, "f", "h"), false, false},
		{path(1, "f", "g"), path(1, "f"), false, false},
		{path(1, "f.g"), path(1, "f", "g"), false, false},
		{path(1, "f"), path(1, "f.g"), false, false},
		{path(1), path(1, "*"), true, false},
		{path(1, "*"), path(1), false, false},
		{path(1, "*"), path(1, "*"), true, true},
		{path(1, "*"), path(1, "*", "f"), true, true},
		{path(1, "*"), path(1, "*", "*"), true, false},
		{path(1), path(1, "f", "*"), true, false},
		{path(1), path(1, "*", "f"), true, false},
		{path(1), path(1, "f", "*", "g"), true, false},
		{path(1, "f"), path(1, "f", "*", "g"), true, false},
		{path(1, "f", "*"), path(1, "f", "*", "g"), true, true},
		{path(1, "f", "*"), path(1, "f", "*", "g", "h"), true, true},
		{path(1, "f", "*"), path(1, "f", "*", "g", "*"), true, false},
		{path(1, "f", "*"), path(1, "f", "g", "*"), false, false},
		{path(1, "*"), path(1, "f", "*"), false, false},
		{path(1), path(1, "**"), true, true},
		{path(1), path(1, "*f"), true, true},
		{path(1), path(1, "f*", "g"), true, true},
	} {
		if mir.Prefix(x.a, x.b) != x.prefix {
			t.Errorf("16.2: Prefix of %+v and %+v is not %v", x.a, x.b, x.prefix)
		}
		if mir.Shallow(x.a, x.b) != x.shallow {
			t.Errorf("16.2: Shallow of %+v and %+v is not %v", x.a, x.b, x.shallow)
		}
	}
}

// 16.2
func TestFront(t *testing.T) {
	for _, x := range []struct{ p, want api.Path }{
		{path(0), path(0)},
		{path(-3), path(-3)},
		{path(math.MaxInt), path(math.MaxInt)},
		{path(1, "f"), path(1, "f")},
		{path(1, "f", "g", "h"), path(1, "f", "g", "h")},
		{path(1, "*"), path(1)},
		{path(12, "*", "f", "g"), path(12)},
		{path(1, "*", "*"), path(1)},
		{path(1, "f", "*"), path(1, "f")},
		{path(1, "f", "*", "g"), path(1, "f")},
		{path(1, "f", "g", "*", "*", "h", "*"), path(1, "f", "g")},
		{path(1, "**", "f*", "", "*"), path(1, "**", "f*", "")},
	} {
		kept(t, "16.2: Front", x.p, func(p api.Path) {
			front := mir.Front(p)
			if !alike(front, x.want) {
				t.Errorf("16.2: Front of %+v is %+v", p, front)
			}
			own := clone(p)
			ownMemory(t, "16.2: Front", own, mir.Front(own), mir.Front(own))
		})
	}
}

// The caller may do with what Front answers whatever it wants.
func TestFrontIsTheCallersOwn(t *testing.T) {
	p := clone(path(1, "f", "g", "*", "h"))
	front := mir.Front(p)
	front.Local, front.Steps[0] = 9, "x"
	front.Steps = append(front.Steps, "y")
	if !alike(p, path(1, "f", "g", "*", "h")) || !alike(mir.Front(p), path(1, "f", "g")) {
		t.Errorf("16.2: %+v, %+v", p, mir.Front(p))
	}
	p.Steps[1] = "z"
	if !alike(front, path(9, "x", "g", "y")) {
		t.Errorf("16.2: %+v", front)
	}
}

// 16.2: each is ahead of all that stand behind it.
func TestLess(t *testing.T) {
	l := []api.Path{
		path(math.MinInt, "z"),
		path(-11),
		path(-2, "z"),
		path(-1),
		path(-1, "f"),
		path(0),
		path(1),
		path(1, ""),
		path(1, "", ""),
		path(1, "", "f"),
		path(1, "*"),
		path(1, "*", "*"),
		path(1, "*", "f"),
		path(1, "**"),
		path(1, "*.f"),
		path(1, "F"),
		path(1, "_"),
		path(1, "f"),
		path(1, "f", "*"),
		path(1, "f", "*", "z"),
		path(1, "f", "g"),
		path(1, "f", "g", "*"),
		path(1, "f", "gg"),
		path(1, "f", "h"),
		path(1, "f", "z"),
		path(1, "f.g"),
		path(1, "f1"),
		path(1, "f10"),
		path(1, "f2"),
		path(1, "ff"),
		path(1, "ff", "a"),
		path(1, "g"),
		path(1, "g", "f"),
		path(1, "\x7f"),
		path(1, "\xc3\xa9"),
		path(1, "\xff"),
		path(2),
		path(2, "a"),
		path(9),
		path(10),
		path(11, "*"),
		path(100),
		path(1 << 40),
		path(math.MaxInt),
		path(math.MaxInt, "*"),
	}
	for i, a := range l {
		for k, b := range l {
			if mir.Less(a, b) != (i < k) {
				t.Errorf("16.2: Less of %+v and %+v is not %v", a, b, i < k)
			}
		}
	}
}

// 16.2
func TestText(t *testing.T) {
	for _, x := range []struct {
		p    api.Path
		want string
	}{
		{path(0), "0"},
		{path(7), "7"},
		{path(10), "10"},
		{path(5999), "5999"},
		{path(-1), "-1"},
		{path(-120), "-120"},
		{path(math.MaxInt), "9223372036854775807"},
		{path(math.MinInt), "-9223372036854775808"},
		{path(1, "f"), "1.f"},
		{path(1, "*"), "1.*"},
		{path(12, "f", "*", "g", "*"), "12.f.*.g.*"},
		{path(-3, "*", "f"), "-3.*.f"},
		{path(1, "", ""), "1.."},
		{path(1, "a.b", "\xff", "%d"), "1.a.b.\xff.%d"},
	} {
		if s := mir.Text(x.p); s != x.want {
			t.Errorf("16.2: Text of %+v is %q, not %q", x.p, s, x.want)
		}
	}
}

// The chapter's own examples.
func TestExamples(t *testing.T) {
	if !mir.Prefix(path(1), path(1, "f", "*")) || mir.Shallow(path(1), path(1, "f", "*")) {
		t.Error("16.2: Prefix, Shallow of 1 and 1.f.*")
	}
	if s := mir.Text(mir.Front(path(1, "f", "*", "g"))); s != "1.f" {
		t.Errorf("16.2: Front of 1.f.*.g is %s", s)
	}
}

// smallPaths are all paths of three locals with so many steps at most.
func smallPaths(steps int) []api.Path {
	l := []api.Path{path(-1), path(0), path(1)}
	for i := 0; i < len(l); i++ {
		if len(l[i].Steps) == steps {
			break
		}
		for _, step := range []string{"*", "f", "ff", ""} {
			l = append(l, path(l[i].Local, append(slices.Clone(l[i].Steps), step)...))
		}
	}
	return l
}

// 16.2, 16.3
func TestAllSmallPaths(t *testing.T) {
	l := smallPaths(3)
	for _, a := range l {
		isFront(t, a)
		for _, b := range l {
			isPair(t, a, b)
		}
	}
}

// isFront asks 16.3 of a path, and holds Front and Text against another way of telling them.
func isFront(t *testing.T, p api.Path) {
	t.Helper()
	front := mir.Front(p)
	if !mir.Prefix(front, p) || !alike(mir.Front(front), front) {
		t.Errorf("16.3: Front of %+v is %+v", p, front)
	}
	if slices.Contains(front.Steps, "*") || len(front.Steps) < len(p.Steps) && p.Steps[len(front.Steps)] != "*" {
		t.Errorf("16.2: Front of %+v is %+v", p, front)
	}
	if mir.Shallow(front, p) != !slices.Contains(p.Steps, "*") {
		t.Errorf("16.2: Shallow of Front of %+v", p)
	}
	if mir.Text(p) != wantText(p) || mir.Text(hollowed(p)) != wantText(p) {
		t.Errorf("16.2: Text of %+v is %q", p, mir.Text(p))
	}
}

// isPair asks 16.3 of two paths, and holds what is told of them against another way of telling it.
func isPair(t *testing.T, a, b api.Path) {
	t.Helper()
	what := fmt.Sprintf("%+v and %+v", a, b)
	same, prefix := alike(a, b), mir.Prefix(a, b)
	if prefix != wantPrefix(a, b) || mir.Prefix(hollowed(a), b) != prefix || mir.Prefix(a, hollowed(b)) != prefix {
		t.Errorf("16.2: Prefix of %s is %v", what, prefix)
	}
	if s := mir.Shallow(a, b); s != wantShallow(a, b) || mir.Shallow(hollowed(a), b) != s || s && !prefix {
		t.Errorf("16.2: Shallow of %s is %v", what, s)
	}
	if less := mir.Less(a, b); less != wantLess(a, b) || mir.Less(a, hollowed(b)) != less {
		t.Errorf("16.2: Less of %s is %v", what, less)
	}
	if same && !prefix || prefix && mir.Prefix(b, a) != same {
		t.Errorf("16.3: Prefix of %s is no order", what)
	}
	if prefix && !same && !mir.Less(a, b) {
		t.Errorf("16.2: Less of %s: what begins another one is ahead of it", what)
	}
	if prefix && !mir.Prefix(mir.Front(a), mir.Front(b)) {
		t.Errorf("16.2: Fronts of %s", what)
	}
}

// 16.3: what begins something that begins something begins it, too.
func TestPrefixIsAnOrder(t *testing.T) {
	l := smallPaths(2)
	for _, a := range l {
		for _, b := range l {
			for _, c := range l {
				if mir.Prefix(a, b) && mir.Prefix(b, c) && !mir.Prefix(a, c) {
					t.Errorf("16.3: %+v, %+v, %+v", a, b, c)
				}
				if mir.Shallow(a, b) && mir.Shallow(b, c) && !mir.Shallow(a, c) {
					t.Errorf("16.3: Shallow: %+v, %+v, %+v", a, b, c)
				}
				if mir.Less(a, b) && mir.Less(b, c) && !mir.Less(a, c) {
					t.Errorf("16.2: Less: %+v, %+v, %+v", a, b, c)
				}
			}
		}
	}
}

func TestPathsStayAsTheyWere(t *testing.T) {
	for _, p := range append(smallPaths(2), path(3, []string{}...)) {
		kept(t, "16.2", p, func(p api.Path) {
			q := path(1, "f", "*")
			mir.Prefix(p, q)
			mir.Prefix(q, p)
			mir.Shallow(p, q)
			mir.Shallow(q, p)
			mir.Less(p, q)
			mir.Less(q, p)
			mir.Front(p)
			mir.Text(p)
		})
	}
}

// A list with room behind its end is that list up to its end alone.
func TestRoomBehindTheEnd(t *testing.T) {
	all := []string{"f", "g", "*", "h"}
	a, b := path(1, all[:1]...), path(1, all[:2]...)
	if !mir.Shallow(a, b) || mir.Prefix(b, a) || !mir.Less(a, b) || mir.Text(a) != "1.f" || !alike(mir.Front(b), path(1, "f", "g")) {
		t.Error("16.2: paths with room behind their ends")
	}
	front := mir.Front(path(1, all...))
	if front.Steps = append(front.Steps, "x"); all[2] != "*" {
		t.Error("16.2: Front hands out what it was given")
	}
}

func TestPathsByChance(t *testing.T) {
	m := newMaker(162)
	for range 40000 {
		a := m.path()
		b := m.path()
		if !m.rare(3) {
			b = m.likely(a)
		}
		isFront(t, a)
		isPair(t, a, b)
		isPair(t, b, a)
	}
}

func TestLongPaths(t *testing.T) {
	const n = 200000
	steps := times(n, func(i int) string { return "f" + strconv.Itoa(i) })
	a, b := path(1, steps...), path(1, append(slices.Clone(steps), "*")...)
	if !mir.Prefix(a, b) || mir.Prefix(b, a) || mir.Shallow(a, b) || !mir.Shallow(b, b) || !mir.Less(a, b) || mir.Less(b, a) {
		t.Error("16.2: long paths")
	}
	if !alike(mir.Front(b), a) || mir.Text(b) != wantText(b) {
		t.Error("16.2: Front, Text of long paths")
	}
}
