package manifest_test

import (
	"slices"
	"strings"
	"testing"

	"usufruct/api"
	"usufruct/manifest"
)

func TestPrintTellsTexts(t *testing.T) {
	printed(t, "== a\n", crate("a", ""))
	printed(t, "== a\nx", crate("a", "x"))
	printed(t, "== a\nx\n", crate("a", "x\n"))
	printed(t, "== a\n\n", crate("a", "\n"))
	printed(t, "== a : b\n", crate("a", "", "b"))
	printed(t, "== a : c b\nx", crate("a", "x", "c", "b"))
	printed(t, "== a\n== b\n", crate("a", ""), crate("b", ""))
	printed(t, "== a\n\n\nx\n== b : a\n== c : b a\n y", crate("a", "\n\nx\n"), crate("b", "", "a"), crate("c", " y", "b", "a"))
	printed(t, "== "+longName+" : _ Z9\n=\n == a\n", crate(longName, "=\n == a\n", "_", "Z9"))
	printed(t, "== a\n\xff\x00\r", crate("a", "\xff\x00\r"))
	// The chapter's example.
	printed(t, "== a\nfn f() {\n}\n== b : a\n", crate("a", "fn f() {\n}\n"), crate("b", "", "a"))
}

func TestPrintTakesNilAndEmptyAlike(t *testing.T) {
	printed(t, "== a\n== b\n", api.Source{Name: "a", Deps: []string{}}, api.Source{Name: "b"})
	textless(t, "nil")
	textless(t, "empty", []api.Source{}...)
}

func TestPrintRefusesNamesThatAreNone(t *testing.T) {
	for _, name := range []string{
		"", " ", "a ", " a", "a b", "a\n", "\na", "a\nb", "a\n== b", "a : b", "a :", ": a", "a : b c", "==", "== a", "fn", "bool", "1", "1a", "a-b", "a::b", "é", "\xff", "a\x00", "a\r", longName + "3",
	} {
		textless(t, "name "+name, crate(name, ""))
		textless(t, "name "+name, crate(name, "x\n"), crate("y", "z"))
		textless(t, "name "+name, crate("y", ""), crate(name, "", "y"))
		textless(t, "dependency "+name, crate("y", "", name))
		textless(t, "dependency "+name, crate("y", "x\n", "z", name), crate("z", ""))
		textless(t, "dependency "+name, crate("z", ""), crate("y", "x", name, "z"))
	}
}

func TestPrintRefusesTwice(t *testing.T) {
	textless(t, "a name twice", crate("a", ""), crate("a", ""))
	textless(t, "a name twice", crate("a", "x\n"), crate("b", "", "a"), crate("a", "", "b"))
	textless(t, "a dependency twice", crate("a", "", "b", "b"))
	textless(t, "a dependency twice", crate("z", ""), crate("a", "", "b", "c", "b"))
	textless(t, "its own name", crate("a", "", "a"))
	textless(t, "its own name", crate("z", ""), crate("a", "", "z", "a"))
}

func TestPrintRefusesTextsWithAHead(t *testing.T) {
	for _, text := range []string{"==", "==\n", "== b", "== b\n", "x\n==", "x\n== b\n", "\n\n== b : a\ny\n", "===", "==x", "x\n====\n"} {
		textless(t, "text "+text, crate("a", text))
		textless(t, "text "+text, crate("z", ""), crate("a", text))
		textless(t, "text "+text, crate("a", text+"\n"), crate("z", ""))
	}
}

func TestPrintRefusesTextsThatDoNotEnd(t *testing.T) {
	for _, text := range []string{"x", "x\ny", "\n\nx", " ", "\r", "\n ", "="} {
		textless(t, "text "+text, crate("a", text), crate("b", ""))
		textless(t, "text "+text, crate("a", "x\n"), crate("b", text, "a"), crate("c", "y"))
		printed(t, "== b\n== a\n"+text, crate("b", ""), crate("a", text))
	}
}

func TestPrintCountsCratesAndDependencies(t *testing.T) {
	var l []api.Source
	for _, name := range names(api.MaxCrates+1, "a") {
		l = append(l, crate(name, ""))
	}
	printed(t, heads(api.MaxCrates), l[:api.MaxCrates]...)
	textless(t, "65 crates", l...)
	deps := names(api.MaxCrates+1, "b")
	printed(t, "== a : "+strings.Join(deps[1:], " ")+"\n", crate("a", "", deps[1:]...))
	textless(t, "65 dependencies", crate("a", "", deps...))
	textless(t, "65 dependencies", crate("z", ""), crate("a", "x", deps...), crate("y", ""))
}

func TestPrintCountsBytes(t *testing.T) {
	long := strings.Repeat("x\n", api.MaxBlob)
	fits := long[:api.MaxBlob-len("== a\n")]
	printed(t, "== a\n"+fits, crate("a", fits))
	textless(t, "one byte too many", crate("a", fits+"x"))
	textless(t, "one byte too many", crate("a", fits+"\n"))
	first, second := long[:api.MaxBlob/2], long[:api.MaxBlob/2-len("== a : b\n== b\n")]
	printed(t, "== a : b\n"+first+"== b\n"+second, crate("a", first, "b"), crate("b", second))
	textless(t, "one byte too many", crate("a", first, "b"), crate("b", second+"x"))
	textless(t, "one byte too many", crate("a", first, "b"), crate("b1", second))
	textless(t, "one byte too many", crate("a", first, "bb"), crate("b", second))
	// The last head has its byte 10, too, though Parse would do without.
	first = long[:api.MaxBlob-len("== a\n== b\n")]
	printed(t, "== a\n"+first+"== b\n", crate("a", first), crate("b", ""))
	textless(t, "one byte too many", crate("a", first), crate("bb", ""))
	textless(t, "one byte too many", crate("a", first), crate("b", "\n"))
	textless(t, "a long name", crate(long, ""))
	textless(t, "a long dependency", crate("a", "", long))
}

// What shares its memory may stand for more than there is room for anywhere.
func TestPrintEndsWhereMemoryIsShared(t *testing.T) {
	long := strings.Repeat("x\n", api.MaxBlob)
	crates := slices.Repeat([]api.Source{crate("a", long, slices.Repeat([]string{long}, 1<<16)...)}, 1<<16)
	textless(t, "long dependencies", crates...)
	crates = slices.Repeat([]api.Source{crate("a", long)}, 1<<16)
	textless(t, "long texts", crates...)
	crates = slices.Repeat([]api.Source{crate("a", "", slices.Repeat([]string{""}, 1<<20)...)}, 1<<20)
	textless(t, "many empty dependencies", crates...)
}

func TestPrintOfCratesByChance(t *testing.T) {
	right := 0
	for seed := range int64(20000) {
		l := newMaker(seed).crates()
		kept(t, l, func() {
			if want, ok := wantPrint(l); ok {
				right++
				printed(t, want, l...)
			} else {
				textless(t, short(l), l...)
			}
		})
	}
	if right < 5000 || right > 15000 {
		t.Errorf("%d of 20000 lists have a text: the maker is wrong", right)
	}
}

func TestPrintAnswersOwnMemory(t *testing.T) {
	l := []api.Source{crate("abc", "xyz\n", "def"), crate("def", "uvw")}
	s, err := manifest.Print(l)
	if err != nil || within(l[0].Name, s) || within(l[0].Text, s) || within(l[1].Text, s) || within(s, l[0].Text) {
		t.Errorf("error %v, or the text shares memory with the crates", err)
	}
	// What was answered stays, whatever is printed later.
	if _, err := manifest.Print([]api.Source{crate("ghi", "ghi")}); err != nil || s != "== abc : def\nxyz\n== def\nuvw" {
		t.Errorf("%q, error %v", s, err)
	}
}
