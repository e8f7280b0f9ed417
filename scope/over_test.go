package scope_test

import (
	"fmt"
	"testing"

	"usufruct/api"
	"usufruct/scope"
)

// 13.2

// overs asks of which pairs of names the first one outlives the second one: just those that are told, each as its two names behind each other.
func overs(t *testing.T, f api.Func, names string, pairs ...string) {
	t.Helper()
	is := map[string]bool{}
	for _, p := range pairs {
		is[p] = true
	}
	for _, a := range names {
		for _, b := range names {
			if scope.Over(f, string(a), string(b)) != is[string(a)+string(b)] {
				t.Errorf("13.2: of %v: Over(%c, %c) is not %t", f.Lives, a, b, is[string(a)+string(b)])
			}
		}
	}
}

func TestOver(t *testing.T) {
	for _, x := range []struct {
		head  string
		pairs []string
	}{
		{"fn f() { }", nil},
		{"fn f<'a>() { }", []string{"aa"}},
		{"fn f<'a, 'b>() { }", []string{"aa", "bb"}},
		{"fn f<'a: 'b, 'b>() { }", []string{"aa", "bb", "ab"}},
		{"fn f<'a, 'b: 'a>() { }", []string{"aa", "bb", "ba"}},
		{"fn f<'a: 'a>() { }", []string{"aa"}},
		{"fn f<'a: 'b, 'b: 'c, 'c: 'd, 'd>() { }", []string{"aa", "bb", "cc", "dd", "ab", "ac", "ad", "bc", "bd", "cd"}},
		{"fn f<'a, 'b: 'a, 'c: 'b, 'd: 'c>() { }", []string{"aa", "bb", "cc", "dd", "ba", "ca", "da", "cb", "db", "dc"}},
		{"fn f<'a: 'b + 'c, 'b: 'd, 'c: 'd, 'd>() { }", []string{"aa", "bb", "cc", "dd", "ab", "ac", "ad", "bd", "cd"}},
		{"fn f<'a: 'c, 'b: 'c, 'c, 'd>() { }", []string{"aa", "bb", "cc", "dd", "ac", "bc"}},
		{"fn f<'a: 'b, 'b: 'a>() { }", []string{"aa", "bb", "ab", "ba"}},
		{"fn f<'a: 'b, 'b: 'c, 'c: 'a>() { }", []string{"aa", "bb", "cc", "ab", "ac", "ba", "bc", "ca", "cb"}},
		{"fn f<'a: 'b, 'b: 'c, 'c: 'b, 'd: 'a>() { }", []string{"aa", "bb", "cc", "dd", "ab", "ac", "bc", "cb", "da", "db", "dc"}},
	} {
		overs(t, parsed(t, x.head).Funcs[0], "abcdz", x.pairs...)
	}
}

func TestOverOfNamesThatAreNone(t *testing.T) {
	f := withLives(life("a", "z", "b"), life("b", "y"), life("c", "z"))
	overs(t, f, "abcyz", "aa", "bb", "cc", "ab")
	// No way leads through one that is none, whatever its name would have.
	overs(t, withLives(life("a", "y"), life("b", "a")), "aby", "aa", "bb", "ba")
	for _, f := range []api.Func{{}, withLives(), f} {
		for _, name := range []string{"", "'a", "a ", "A", "fn", "\xFF"} {
			if scope.Over(f, name, name) || scope.Over(f, "a", name) || scope.Over(f, name, "a") {
				t.Errorf("13.2: %q of %v", name, f.Lives)
			}
		}
	}
	// Names are any texts where they are Lives.
	odd := withLives(life("", "\xFF"), life("\xFF", "1 2"), life("1 2"))
	if !scope.Over(odd, "", "1 2") || !scope.Over(odd, "", "") || scope.Over(odd, "1 2", "") || scope.Over(odd, "", "\xFE") {
		t.Error("13.2: odd names")
	}
}

func TestOverOfTwoLivesOfOneName(t *testing.T) {
	overs(t, withLives(life("a", "b"), life("b"), life("a", "c"), life("c")), "abcz", "aa", "bb", "cc", "ab", "ac")
	overs(t, withLives(life("a"), life("a", "b"), life("b")), "abz", "aa", "bb", "ab")
	overs(t, withLives(life("a", "b"), life("a"), life("b")), "abz", "aa", "bb", "ab")
	overs(t, withLives(life("c", "a"), life("a", "z"), life("b"), life("a", "b")), "abcz", "aa", "bb", "cc", "ca", "cb", "ab")
	overs(t, withLives(life("a", "b"), life("b"), life("b", "c"), life("c"), life("c", "a")), "abcz", "aa", "bb", "cc", "ab", "ac", "ba", "bc", "ca", "cb")
}

// Over asks for Lives alone.
func TestOverAsksForLivesAlone(t *testing.T) {
	f := parsed(t, "fn f<'a: 'b, 'b>(x: &'q int) -> &'r int { let y: &'s int = x; }").Funcs[0]
	overs(t, f, "abqrsxyf", "aa", "bb", "ab")
	f.Name, f.Pub, f.At = "", true, -5
	overs(t, f, "abqrsxyf", "aa", "bb", "ab")
}

// allOvers are all lists of these names.
func allOvers(names ...string) [][]string {
	l := [][]string{nil}
	for _, name := range names {
		for _, x := range l {
			l = append(l, append(x[:len(x):len(x)], name))
		}
	}
	return l
}

func overAsWanted(t *testing.T, f api.Func, names []string) {
	t.Helper()
	facts := wantOver(f)
	for _, a := range names {
		for _, b := range names {
			if is := scope.Over(f, a, b); is != facts[pair{a, b}] {
				t.Fatalf("13.2: of %v: Over(%s, %s): %t", f.Lives, a, b, is)
			}
		}
	}
}

func TestOverOfAllSmall(t *testing.T) {
	names := []string{"a", "b", "c", "z"}
	for _, l := range [][]string{{}, {"a"}, {"a", "b"}, {"a", "a"}, {"a", "b", "c"}, {"a", "b", "a"}, {"b", "a", "a"}, {"a", "a", "a"}} {
		over := make([]int, len(l))
		all := allOvers(names...)
		for {
			var f api.Func
			for i, name := range l {
				f.Lives = append(f.Lives, life(name, all[over[i]]...))
			}
			overAsWanted(t, f, names)
			i := 0
			for ; i < len(over); i++ {
				if over[i]++; over[i] < len(all) {
					break
				}
				over[i] = 0
			}
			if i == len(over) {
				break
			}
		}
	}
}

func TestOverOfMany(t *testing.T) {
	const n = 1 << 16
	name := func(i int) string { return fmt.Sprint("l", i) }
	chain := withLives(times(n, func(i int) api.Life { return life(name(i), name(i+1)) })...)
	ring := withLives(times(n, func(i int) api.Life { return life(name(i), name((i+1)%n)) })...)
	one := withLives(times(n, func(i int) api.Life { return life("a", name(i)) })...)
	one.Lives = append(one.Lives, life(name(7), "a"))
	for _, x := range []struct {
		f    api.Func
		a, b string
		is   bool
	}{
		{chain, name(0), name(n - 1), true},
		{chain, name(n - 1), name(0), false},
		{chain, name(n - 2), name(n - 1), true},
		{chain, name(0), name(n), false},
		{ring, name(5), name(4), true},
		{ring, name(0), name(n - 1), true},
		{ring, name(0), "a", false},
		{one, "a", name(7), true},
		{one, name(7), "a", true},
		{one, "a", name(8), false},
	} {
		if scope.Over(x.f, x.a, x.b) != x.is {
			t.Errorf("13.2: Over(%s, %s) is not %t", x.a, x.b, x.is)
		}
	}
}

func TestOverLeavesWhatIsHandedIn(t *testing.T) {
	for _, f := range []api.Func{withLives(life("a", "b", "z"), life("b", "a"), life("a")), {}, hollowed(withLives(life("a"), life("b", "a")))} {
		kept(t, "13.2: Over", f, func(f api.Func) { scope.Over(f, "a", "b") })
	}
}
