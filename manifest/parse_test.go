package manifest_test

import (
	"slices"
	"strings"
	"testing"

	"usufruct/api"
	"usufruct/manifest"
)

func TestParseTellsCrates(t *testing.T) {
	parsed(t, "== a", crate("a", ""))
	parsed(t, "== a\n", crate("a", ""))
	parsed(t, "== a\n\n", crate("a", "\n"))
	parsed(t, "== a\nx", crate("a", "x"))
	parsed(t, "== a\nx\n", crate("a", "x\n"))
	parsed(t, "== a\n\nx\n\n", crate("a", "\nx\n\n"))
	parsed(t, "== a : b", crate("a", "", "b"))
	parsed(t, "== a : b\n", crate("a", "", "b"))
	parsed(t, "== a : c b\nx", crate("a", "x", "c", "b"))
	parsed(t, "== a\n== b", crate("a", ""), crate("b", ""))
	parsed(t, "== a\nx\n== b\ny", crate("a", "x\n"), crate("b", "y"))
	parsed(t, "== a\n\n\n== b : a c\n== c : a\nz\n", crate("a", "\n\n"), crate("b", "", "a", "c"), crate("c", "z\n", "a"))
	// The chapter's example.
	parsed(t, "== a\nfn f() {\n}\n== b : a", crate("a", "fn f() {\n}\n"), crate("b", "", "a"))
	// Dependencies that stand below, in a ring, or not at all are not Parse's to ask for.
	parsed(t, "== a : b z\n== b : a\n", crate("a", "", "b", "z"), crate("b", "", "a"))
}

func TestParseTakesAllNames(t *testing.T) {
	for _, name := range []string{"a", "Z", "_", "a1", "_0", "fnx", "Fn", "int_", longName} {
		parsed(t, "== "+name, crate(name, ""))
		parsed(t, "== x : "+name+" y", crate("x", "", name, "y"))
		parsed(t, "== x : y "+name+"\n", crate("x", "", "y", name))
	}
}

func TestParsePassesEmptyLinesAhead(t *testing.T) {
	parsed(t, "\n== a", crate("a", ""))
	parsed(t, "\n\n\n== a\n\nx", crate("a", "\nx"))
	refused(t, "\n\n== a\n==", api.ErrManifest, 7)
}

func TestParseTakesTextsAsTheyAre(t *testing.T) {
	for _, text := range []string{
		" ", "=", "= =", " ==", " == b", "x == b", "\t== b\n", "=\n=", "=\n=\n", "//== b", "\r== b", "\r\n", "\x00", "\xff\xfe\n\x80", "é\n", "fn", "\v==\f==", ":", ": b",
	} {
		parsed(t, "== a\n"+text, crate("a", text))
		parsed(t, "== a\n"+text+"\n== b\n"+text, crate("a", text+"\n"), crate("b", text))
	}
}

func TestParseNeedsAHead(t *testing.T) {
	refused(t, "", api.ErrManifest, 0)
	refused(t, "\n", api.ErrManifest, 0)
	refused(t, "\n\n\n", api.ErrManifest, 0)
}

func TestParseRefusesLinesAheadOfTheFirstHead(t *testing.T) {
	for _, line := range []string{" ", "\t", "\r", "x", "=", "= =", " == a", "//", "\x00", "fn f() { }", "a", ":"} {
		refused(t, line, api.ErrManifest, 0)
		refused(t, line+"\n", api.ErrManifest, 0)
		refused(t, line+"\n== a", api.ErrManifest, 0)
		refused(t, "\n\n"+line+"\n\n== a", api.ErrManifest, 2)
	}
}

func TestParseRefusesHeadsOfNoSuchForm(t *testing.T) {
	for _, head := range []string{
		"==", "===", "====", "== ", "==  ", "==a", "==  a", "==\ta", "== \ta", "=== a", "== == a", "==: a", "== :", "== : a",
		"== a ", "== a  ", "== a\t", "== a\r", "== a b", "== a b : c", "== a ==", "== a // x", "== a\x00", "== a,",
		"== a:", "== a: b", "== a:b", "== a :", "== a : ", "== a :  ", "== a :b", "== a  : b", "== a\t: b", "== a :\tb", "== a :  b", "== a :: b", "== a : :",
		"== a : b ", "== a : b  ", "== a : b  c", "== a : b\tc", "== a : b, c", "== a : b,c", "== a : b c ", "== a : b :", "== a : b : c", "== a : b:c", "== a : b\r",
		"== fn", "== bool", "== 1", "== 1a", "== a-b", "== a.b", "== a::b", "== 'a", "== é", "== aé", "== \xff", "== " + longName + "3",
		"== a : fn", "== a : b int", "== a : 1", "== a : b 2c", "== a : b-c", "== a : b::c", "== a : é", "== a : 'b", "== a : \xff", "== a : " + longName + "3", "== a : b " + longName + "3",
	} {
		refused(t, head, api.ErrManifest, 0)
		refused(t, head+"\n", api.ErrManifest, 0)
		refused(t, "\n"+head+"\n== z", api.ErrManifest, 1)
		refused(t, "== z\nxy\n"+head+"\nx", api.ErrManifest, 8)
	}
}

func TestParseRefusesTwice(t *testing.T) {
	refused(t, "== a\n== a", api.ErrTwice, 5)
	refused(t, "\n== a : b\nx\n== b\n== c\n== b : d\n", api.ErrTwice, 22)
	refused(t, "== a\n== b\n== a\n", api.ErrTwice, 10)
	refused(t, "== a : b b", api.ErrTwice, 0)
	refused(t, "== z\n\n== a : b c d b", api.ErrTwice, 6)
	refused(t, "== a : b c c d", api.ErrTwice, 0)
	refused(t, "== a : a", api.ErrTwice, 0)
	refused(t, "== z\n== a : b a", api.ErrTwice, 5)
	refused(t, "== z\n== a : b c a d", api.ErrTwice, 5)
	// Names that only look alike.
	parsed(t, "== a\n== A\n== aa : a A\n", crate("a", ""), crate("A", ""), crate("aa", "", "a", "A"))
}

func TestParseCountsCrates(t *testing.T) {
	most := heads(api.MaxCrates)
	var want []api.Source
	for _, name := range names(api.MaxCrates, "a") {
		want = append(want, crate(name, ""))
	}
	parsed(t, most, want...)
	for _, head := range []string{"== b", "== b\n", "== b : a0\nx\n== c", "== a0", "== b : b", "== b : c c", "== b : " + strings.Join(names(65, "x"), " ")} {
		refused(t, most+head, api.ErrLong, len(most))
		refused(t, most+"x\n"+head, api.ErrLong, len(most)+2)
	}
	for _, head := range []string{"==", "== b ", "== fn\n", "== b : b :"} {
		refused(t, most+head, api.ErrManifest, len(most))
	}
}

func TestParseCountsDependencies(t *testing.T) {
	deps := names(api.MaxCrates+1, "b")
	parsed(t, "== a : "+strings.Join(deps[1:], " "), crate("a", "", deps[1:]...))
	refused(t, "== z\n== a : "+strings.Join(deps, " "), api.ErrLong, 5)
	refused(t, "== a : "+strings.Join(names(100000, "b"), " "), api.ErrLong, 0)
	// What is named first is told of a line with two things that are wrong.
	refused(t, "== z\n== z : "+strings.Join(deps, " "), api.ErrLong, 5)
	refused(t, "== a : a "+strings.Join(deps[1:], " "), api.ErrLong, 0)
	refused(t, "== a : b1 "+strings.Join(deps[1:], " "), api.ErrLong, 0)
	refused(t, "== a : fn "+strings.Join(deps, " "), api.ErrManifest, 0)
	refused(t, "== a : "+strings.Join(deps, " ")+" ", api.ErrManifest, 0)
	refused(t, "== a : a "+strings.Join(deps[2:], " "), api.ErrTwice, 0)
}

func TestParseCountsBytes(t *testing.T) {
	for _, s := range []string{"== a\n", "== a : b\n", "== a\nx\n== b\n"} {
		l, err := manifest.Parse(s)
		if err != nil {
			t.Fatal(err)
		}
		rest := strings.Repeat("y\n\nz", api.MaxBlob/4)[:api.MaxBlob-len(s)]
		l[len(l)-1].Text += rest
		parsed(t, s+rest, l...)
		refused(t, s+rest+"y", api.ErrLong, 0)
		refused(t, s+rest+"\n", api.ErrLong, 0)
	}
	lines := strings.Repeat("\n", api.MaxBlob)
	refused(t, lines, api.ErrManifest, 0)
	refused(t, lines+"\n", api.ErrLong, 0)
	parsed(t, lines[4:]+"== a", crate("a", ""))
	refused(t, lines[4:]+"== a\n", api.ErrLong, 0)
	refused(t, lines[1:]+"x", api.ErrManifest, api.MaxBlob-1)
	refused(t, "x"+lines, api.ErrLong, 0)
	refused(t, "=="+lines, api.ErrLong, 0)
	deps := strings.Repeat(" a", api.MaxBlob/2)
	refused(t, "== b :"+deps[6:], api.ErrLong, 0)
	refused(t, "== b :"+deps[7:]+" ", api.ErrManifest, 0)
	name := strings.Repeat("a", api.MaxBlob)
	refused(t, "== "+name[3:], api.ErrManifest, 0)
	refused(t, name, api.ErrManifest, 0)
}

func TestParseTellsWhatIsWrongFirst(t *testing.T) {
	// In two lines: the upper one.
	refused(t, "x\n==", api.ErrManifest, 0)
	refused(t, "\nx\ny\n== a", api.ErrManifest, 1)
	refused(t, "== a\n== a\n==", api.ErrTwice, 5)
	refused(t, "== a\n==\n== a", api.ErrManifest, 5)
	refused(t, "== a : a\n== b :", api.ErrTwice, 0)
	refused(t, "== a :\n== b : b", api.ErrManifest, 0)
	refused(t, "== a : b b\n== c : "+strings.Join(names(65, "x"), " "), api.ErrTwice, 0)
	refused(t, "== a : "+strings.Join(names(65, "x"), " ")+"\n== a", api.ErrLong, 0)
	refused(t, "== a0\n"+heads(70), api.ErrTwice, 6)
	refused(t, heads(60)+"==\n"+strings.ReplaceAll(heads(70), "a", "b"), api.ErrManifest, len(heads(60)))
	// In one line.
	refused(t, "== a\n== a ", api.ErrManifest, 5)
	refused(t, "== a : a fn", api.ErrManifest, 0)
	refused(t, "== a : b b ", api.ErrManifest, 0)
	refused(t, "== a\n== a : a b b", api.ErrTwice, 5)
}

// holds asks all of a text, however wrong it is.
func holds(t *testing.T, s string) {
	t.Helper()
	want, code, at := wantParse(s)
	if code == api.OK {
		parsed(t, s, want...)
	} else {
		refused(t, s, code, at)
	}
}

func TestParseOfAllShortTexts(t *testing.T) {
	pieces := []string{"==", "=", " ", ":", "a", "b", "int", "\n"}
	most := 6
	if testing.Short() {
		most = 4
	}
	var each func(s string, left int)
	each = func(s string, left int) {
		holds(t, s)
		for _, piece := range pieces {
			if left > 0 {
				each(s+piece, left-1)
			}
		}
	}
	each("", most)
	for _, begin := range []string{"== a", "== a :", "== a : b", "== a\n== b", "\n== a\nx\n"} {
		each(begin, most-2)
	}
}

func TestParseOfTextsByChance(t *testing.T) {
	right := 0
	for seed := range int64(20000) {
		s := newMaker(seed).text()
		holds(t, s)
		if _, code, _ := wantParse(s); code == api.OK {
			right++
		}
	}
	if right < 5000 || right > 15000 {
		t.Errorf("%d of 20000 texts are right: the maker is wrong", right)
	}
}

func TestParseAnswersOwnMemory(t *testing.T) {
	s := strings.Clone("\n== abc : def ghi\nxyz\n== def : ghi abc\n== ghi : abc def\nuvw")
	ahead := strings.Clone(s)
	l, err := manifest.Parse(s)
	if err != nil || s != ahead {
		t.Fatalf("error %v, and %q", err, s)
	}
	for _, x := range l {
		for _, piece := range append([]string{x.Name, x.Text}, x.Deps...) {
			if piece != "" && within(piece, s) {
				t.Errorf("%q is a piece of what was handed in", piece)
			}
		}
	}
	_ = append(l[0].Deps, "x", "y", "z")
	l[0].Deps[0] = "x"
	again, err := manifest.Parse(s)
	if err != nil || !slices.Equal(l[1].Deps, []string{"ghi", "abc"}) || !slices.Equal(l[2].Deps, []string{"abc", "def"}) {
		t.Errorf("lists of one answer share memory: %q", l)
	}
	if !slices.Equal(again[0].Deps, []string{"def", "ghi"}) {
		t.Errorf("lists of two answers share memory: %q", again)
	}
}
