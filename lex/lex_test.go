package lex_test

import (
	"math/rand"
	"regexp"
	"slices"
	"strings"
	"testing"
	"unsafe"

	"usufruct/api"
	"usufruct/fault"
	"usufruct/lex"
)

// What follows finds the tokens in another way than the package: by patterns.

var (
	blanks   = regexp.MustCompile(`^(?:[ \t\n]|//[^\n]*(?:\n|$))*`)
	pieces   = regexp.MustCompile(`^(?:([0-9A-Za-z_]+)|'([0-9A-Za-z_]+)|(::|->|==|[(){}<>,;:.*&+=!-]))`)
	nameForm = regexp.MustCompile(`^[A-Za-z_][0-9A-Za-z_]{0,31}$`)
	intForm  = regexp.MustCompile(`^(?:0|[1-9][0-9]{0,9})$`)
)

func words() []string {
	return strings.Fields("fn struct pub let mut if else while loop break continue return drop true false int bool")
}

func signs() []string {
	return strings.Fields("( ) { } < > , ; : :: . * & + - -> = == !")
}

// wantKind is the kind of what stands at one place, with the text that belongs to it.
func wantKind(m []string) (kind int, text string, ok bool) {
	switch {
	case m[3] != "":
		return api.TokSign, m[3], true
	case m[2] != "":
		return api.TokLife, m[2], nameForm.MatchString(m[2])
	case slices.Contains(words(), m[1]):
		return api.TokWord, m[1], true
	case nameForm.MatchString(m[1]):
		return api.TokName, m[1], true
	}
	// Texts of as many digits stand in the order of their numbers.
	ok = intForm.MatchString(m[1]) && (len(m[1]) < 10 || m[1] <= "2147483647")
	return api.TokInt, m[1], ok
}

// wantTokens are the tokens, or else the first place at which none begins.
func wantTokens(s string) (tokens []api.Token, at int, ok bool) {
	for {
		at += len(blanks.FindString(s[at:]))
		if at == len(s) {
			return append(tokens, api.Token{Kind: api.TokEnd, At: at}), 0, true
		}
		m := pieces.FindStringSubmatch(s[at:])
		if m == nil {
			return nil, at, false
		}
		kind, text, ok := wantKind(m)
		if !ok {
			return nil, at, false
		}
		tokens = append(tokens, api.Token{Kind: kind, Text: text, At: at})
		at += len(m[0])
	}
}

// short keeps a long text out of what a test tells.
func short(s string) string {
	if len(s) > 80 {
		return s[:80] + ".."
	}
	return s
}

func lexed(t *testing.T, s string, want ...api.Token) {
	t.Helper()
	got, err := lex.Lex(s)
	if err != nil {
		t.Errorf("%q: %v", short(s), err)
	} else if !slices.Equal(got, want) {
		t.Errorf("%q: %v, not %v", short(s), got, want)
	}
}

// refused asks for the number and the place of an error, and that nothing but it is told.
func refused(t *testing.T, s string, code api.Errno, at int) {
	t.Helper()
	tokens, err := lex.Lex(s)
	if fault.Code(err) != code || !slices.Equal(fault.Path(err), []int{at}) || !fault.Is(err, code) {
		t.Errorf("%q: error %d at %v, not %d at %d", short(s), fault.Code(err), fault.Path(err), code, at)
	}
	if len(tokens) != 0 {
		t.Errorf("%q: %d tokens beside an error", short(s), len(tokens))
	}
}

// asWanted holds Lex against the patterns.
func asWanted(t *testing.T, s string) {
	t.Helper()
	if want, at, ok := wantTokens(s); ok {
		lexed(t, s, want...)
	} else {
		refused(t, s, api.ErrToken, at)
	}
}

// alone is a text of one token and nothing else.
func alone(t *testing.T, s string, kind int, text string) {
	t.Helper()
	lexed(t, s, api.Token{Kind: kind, Text: text}, end(len(s)))
}

func end(at int) api.Token { return api.Token{Kind: api.TokEnd, At: at} }

// each hands on all texts of so many bytes out of some.
func each(size int, some string, tell func(s string)) {
	b := make([]byte, size)
	var fill func(i int)
	fill = func(i int) {
		if i == size {
			tell(string(b))
			return
		}
		for _, c := range []byte(some) {
			b[i] = c
			fill(i + 1)
		}
	}
	fill(0)
}

// all is every byte that there is.
func all() string {
	var b []byte
	for c := range 256 {
		b = append(b, byte(c))
	}
	return string(b)
}

// edges are a first and a last byte of each kind, and those beside them.
const edges = "\x00\t\n\r !'/09:@AZ[_`az{-=>\x7f\x80\xff"

// someText is made of pieces by chance, most of which may be.
func someText(r *rand.Rand, wrong bool) string {
	some := slices.Concat(words(), signs(), []string{
		"x", "_", "a1", "_0_", "fnx", "Fn", strings.Repeat("n", 32), "'a", "'fn", "'_1", "'" + strings.Repeat("l", 32),
		"0", "7", "10", "2147483647", " ", "  ", "\t", "\n", " \n\t", "//\n", "// a remark's 01 @ é\n", "///\n", "// x // y\n",
	})
	if wrong {
		some = append(some, "00", "01", "1a", "1_", "2147483648", "'", "''", "'1", "/", "@", "\r", "é", "\x00", "\"", "#",
			strings.Repeat("n", 33), "'"+strings.Repeat("l", 33))
	}
	var b strings.Builder
	for range r.Intn(12) {
		b.WriteString(some[r.Intn(len(some))])
		// Two pieces run into one, unless there is a blank between them.
		if r.Intn(2) == 0 {
			b.WriteString(" ")
		}
	}
	if r.Intn(8) == 0 {
		b.WriteString("// the last remark")
	}
	return b.String()
}

const function = "// A remark.\npub fn f<'a>(x: &'a mut S<'a>) -> int {\n\tx.n = 10; // '\n\tif b { return m::g(0)-1; }\n}\n"

// 6.1

func TestAFunction(t *testing.T) {
	lexed(t, function,
		api.Token{Kind: api.TokWord, Text: "pub", At: 13}, api.Token{Kind: api.TokWord, Text: "fn", At: 17},
		api.Token{Kind: api.TokName, Text: "f", At: 20}, api.Token{Kind: api.TokSign, Text: "<", At: 21},
		api.Token{Kind: api.TokLife, Text: "a", At: 22}, api.Token{Kind: api.TokSign, Text: ">", At: 24},
		api.Token{Kind: api.TokSign, Text: "(", At: 25}, api.Token{Kind: api.TokName, Text: "x", At: 26},
		api.Token{Kind: api.TokSign, Text: ":", At: 27}, api.Token{Kind: api.TokSign, Text: "&", At: 29},
		api.Token{Kind: api.TokLife, Text: "a", At: 30}, api.Token{Kind: api.TokWord, Text: "mut", At: 33},
		api.Token{Kind: api.TokName, Text: "S", At: 37}, api.Token{Kind: api.TokSign, Text: "<", At: 38},
		api.Token{Kind: api.TokLife, Text: "a", At: 39}, api.Token{Kind: api.TokSign, Text: ">", At: 41},
		api.Token{Kind: api.TokSign, Text: ")", At: 42}, api.Token{Kind: api.TokSign, Text: "->", At: 44},
		api.Token{Kind: api.TokWord, Text: "int", At: 47}, api.Token{Kind: api.TokSign, Text: "{", At: 51},
		api.Token{Kind: api.TokName, Text: "x", At: 54}, api.Token{Kind: api.TokSign, Text: ".", At: 55},
		api.Token{Kind: api.TokName, Text: "n", At: 56}, api.Token{Kind: api.TokSign, Text: "=", At: 58},
		api.Token{Kind: api.TokInt, Text: "10", At: 60}, api.Token{Kind: api.TokSign, Text: ";", At: 62},
		api.Token{Kind: api.TokWord, Text: "if", At: 70}, api.Token{Kind: api.TokName, Text: "b", At: 73},
		api.Token{Kind: api.TokSign, Text: "{", At: 75}, api.Token{Kind: api.TokWord, Text: "return", At: 77},
		api.Token{Kind: api.TokName, Text: "m", At: 84}, api.Token{Kind: api.TokSign, Text: "::", At: 85},
		api.Token{Kind: api.TokName, Text: "g", At: 87}, api.Token{Kind: api.TokSign, Text: "(", At: 88},
		api.Token{Kind: api.TokInt, Text: "0", At: 89}, api.Token{Kind: api.TokSign, Text: ")", At: 90},
		api.Token{Kind: api.TokSign, Text: "-", At: 91}, api.Token{Kind: api.TokInt, Text: "1", At: 92},
		api.Token{Kind: api.TokSign, Text: ";", At: 93}, api.Token{Kind: api.TokSign, Text: "}", At: 95},
		api.Token{Kind: api.TokSign, Text: "}", At: 97}, end(99))
}

func TestTheChaptersExamples(t *testing.T) {
	lexed(t, "x::y", api.Token{Kind: api.TokName, Text: "x"}, api.Token{Kind: api.TokSign, Text: "::", At: 1}, api.Token{Kind: api.TokName, Text: "y", At: 3}, end(4))
	alone(t, "'a", api.TokLife, "a")
	refused(t, "01", api.ErrToken, 0)
	lexed(t, "a-1", api.Token{Kind: api.TokName, Text: "a"}, api.Token{Kind: api.TokSign, Text: "-", At: 1}, api.Token{Kind: api.TokInt, Text: "1", At: 2}, end(3))
	alone(t, "->", api.TokSign, "->")
}

func TestNoTokens(t *testing.T) {
	for _, s := range []string{"", " ", "\t", "\n", " \t\n\n\t ", "//", "//\n", "// a remark", "// a remark\n", "///", "////", "//\n//\n", " // x\n\t// y", "// 01 ' @ \r \x00 \xff é\n"} {
		lexed(t, s, end(len(s)))
	}
}

func TestNames(t *testing.T) {
	for _, s := range []string{"a", "z", "A", "Z", "_", "__", "a0", "a9", "_1", "aZ", "Az_09", "a01", "x86_64", "self", "String"} {
		alone(t, s, api.TokName, s)
	}
	for _, first := range []string{"a", "z", "A", "Z", "_", "fn"} {
		for _, more := range []string{"a", "Z", "0", "9", "_"} {
			longest := first + strings.Repeat(more, api.MaxName-len(first))
			alone(t, longest, api.TokName, longest)
			refused(t, longest+more, api.ErrToken, 0)
			refused(t, "x "+longest+more, api.ErrToken, 2)
			refused(t, longest+strings.Repeat(more, 100), api.ErrToken, 0)
		}
	}
}

// What has a name's bytes is one token up to its end, be it too long or not: it does not become two.
func TestANameOfTwiceTheLength(t *testing.T) {
	refused(t, strings.Repeat("a", 2*api.MaxName), api.ErrToken, 0)
	refused(t, "'"+strings.Repeat("a", 2*api.MaxName), api.ErrToken, 0)
	refused(t, "1"+strings.Repeat("0", 20), api.ErrToken, 0)
}

func TestWords(t *testing.T) {
	if len(words()) != 17 {
		t.Fatalf("%d words", len(words()))
	}
	for _, s := range words() {
		alone(t, s, api.TokWord, s)
		for _, c := range "az_AZ09" {
			alone(t, s+string(c), api.TokName, s+string(c))
		}
		for _, c := range "xX_" {
			alone(t, string(c)+s, api.TokName, string(c)+s)
		}
		for _, name := range []string{strings.ToUpper(s), strings.ToUpper(s[:1]) + s[1:], s[:len(s)-1], s[1:], s + s} {
			alone(t, name, api.TokName, name)
		}
		refused(t, "1"+s, api.ErrToken, 0)
		lexed(t, s+"-"+s, api.Token{Kind: api.TokWord, Text: s}, api.Token{Kind: api.TokSign, Text: "-", At: len(s)}, api.Token{Kind: api.TokWord, Text: s, At: len(s) + 1}, end(2*len(s)+1))
	}
}

func TestLives(t *testing.T) {
	for _, s := range append(words(), "a", "Z", "_", "_1", "static", "fnx", strings.Repeat("a", api.MaxName), "_"+strings.Repeat("9", api.MaxName-1)) {
		alone(t, "'"+s, api.TokLife, s)
	}
	lexed(t, "'a'b", api.Token{Kind: api.TokLife, Text: "a"}, api.Token{Kind: api.TokLife, Text: "b", At: 2}, end(4))
	lexed(t, "x'a-b", api.Token{Kind: api.TokName, Text: "x"}, api.Token{Kind: api.TokLife, Text: "a", At: 1}, api.Token{Kind: api.TokSign, Text: "-", At: 3}, api.Token{Kind: api.TokName, Text: "b", At: 4}, end(5))
	lexed(t, "&'a int", api.Token{Kind: api.TokSign, Text: "&"}, api.Token{Kind: api.TokLife, Text: "a", At: 1}, api.Token{Kind: api.TokWord, Text: "int", At: 4}, end(7))
}

func TestLivesThatMayNotBe(t *testing.T) {
	for _, s := range []string{"'", "' a", "'\ta", "'\na", "'//\na", "'1", "'1a", "'0", "''", "''a", "'-", "'é", "'\x00", "'" + strings.Repeat("a", api.MaxName+1), "'" + strings.Repeat("_", 100)} {
		refused(t, s, api.ErrToken, 0)
		refused(t, "x\n"+s, api.ErrToken, 2)
		refused(t, s+" a", api.ErrToken, 0)
	}
	refused(t, "'a'", api.ErrToken, 2)
}

func TestNumbers(t *testing.T) {
	for _, s := range []string{"0", "1", "9", "10", "19", "90", "100", "1000000000", "1999999999", "2000000000", "2147483639", "2147483646", "2147483647", "999999999"} {
		alone(t, s, api.TokInt, s)
		for _, sign := range signs() {
			lexed(t, s+sign, api.Token{Kind: api.TokInt, Text: s}, api.Token{Kind: api.TokSign, Text: sign, At: len(s)}, end(len(s)+len(sign)))
		}
	}
	lexed(t, "-1", api.Token{Kind: api.TokSign, Text: "-"}, api.Token{Kind: api.TokInt, Text: "1", At: 1}, end(2))
	lexed(t, "1'a", api.Token{Kind: api.TokInt, Text: "1"}, api.Token{Kind: api.TokLife, Text: "a", At: 1}, end(3))
	lexed(t, "0 0\t1//\n", api.Token{Kind: api.TokInt, Text: "0"}, api.Token{Kind: api.TokInt, Text: "0", At: 2}, api.Token{Kind: api.TokInt, Text: "1", At: 4}, end(8))
}

func TestNumbersThatMayNotBe(t *testing.T) {
	for _, s := range []string{
		"00", "01", "09", "000", "0001", "02147483647", strings.Repeat("0", 40),
		"2147483648", "2147483649", "2147483650", "2147483700", "2200000000", "3000000000", "9999999999", "10000000000",
		"4294967295", "4294967296", "4294967297", "9223372036854775807", "9223372036854775808", "18446744073709551615", "18446744073709551616", "18446744073709551617",
		"99999999999999999999999999999999999999999999999999",
		"0a", "0_", "0x1", "0X", "0b1", "0o7", "0z", "0Z", "1a", "1z", "1A", "1Z", "1_", "1_0", "1e5", "10n", "2147483647a", "1fn", "12int",
	} {
		refused(t, s, api.ErrToken, 0)
		refused(t, "a:"+s, api.ErrToken, 2)
		refused(t, " "+s+" ", api.ErrToken, 1)
	}
	// These are wrong behind the number, not in it.
	refused(t, "1é", api.ErrToken, 1)
	refused(t, "0/1", api.ErrToken, 1)
	refused(t, "12\x00", api.ErrToken, 2)
}

func TestSigns(t *testing.T) {
	if len(signs()) != 19 {
		t.Fatalf("%d signs", len(signs()))
	}
	for _, s := range signs() {
		alone(t, s, api.TokSign, s)
		want := []api.Token{{Kind: api.TokName, Text: "a"}, {Kind: api.TokSign, Text: s, At: 1}, {Kind: api.TokName, Text: "b", At: 1 + len(s)}, end(2 + len(s))}
		lexed(t, "a"+s+"b", want...)
	}
}

func TestTheLongestSign(t *testing.T) {
	for s, want := range map[string]string{
		"::": "::", ": :": ": :", ":::": ":: :", "::::": ":: ::",
		"->": "->", "- >": "- >", "-->": "- ->", "->>": "-> >", ">-": "> -", "--": "- -",
		"==": "==", "= =": "= =", "===": "== =", "====": "== ==", "=>": "= >", "<=": "< =", "!=": "! =", "=-": "= -",
		":=": ": =", "-:": "- :", "&&": "& &", "..": ". .", "<-": "< -", "<>": "< >", "**": "* *", ":": ":", "-": "-", "=": "=",
	} {
		tokens, err := lex.Lex(s)
		var got []string
		for _, x := range tokens {
			if x.Kind == api.TokSign {
				got = append(got, x.Text)
			}
		}
		if err != nil || strings.Join(got, " ") != want {
			t.Errorf("%q: %q, %v, not %q", s, got, err, want)
		}
		asWanted(t, s)
	}
	for _, a := range signs() {
		for _, b := range signs() {
			for _, c := range signs() {
				asWanted(t, a+b+c)
			}
		}
	}
}

func TestBlanks(t *testing.T) {
	want := func(gap int) []api.Token {
		return []api.Token{{Kind: api.TokName, Text: "a", At: gap}, {Kind: api.TokName, Text: "b", At: 1 + 2*gap}, end(2 + 3*gap)}
	}
	for _, s := range []string{" ", "\t", "\n", "  ", " \t\n", "\n\n\n", "//\n", "// x\n", "//a//b\n", "///\n", "// \r\x00\xff'\n \t", " //\n//\n\n", "//\t\n"} {
		lexed(t, s+"a"+s+"b"+s, want(len(s))...)
	}
	for _, s := range []string{"\r", "\r\n", "\v", "\f", "\x00", "\x1f", "\x7f", "\u00a0", "\u0085", "\u2028", "\ufeff", "\\", "/", "/ /", "/*x*/", "#"} {
		refused(t, s+"a", api.ErrToken, 0)
		refused(t, "a"+s+"b", api.ErrToken, 1)
		refused(t, "a "+s, api.ErrToken, 2)
	}
}

func TestRemarks(t *testing.T) {
	a, b := api.Token{Kind: api.TokName, Text: "a"}, api.Token{Kind: api.TokName, Text: "b"}
	lexed(t, "a//b", a, end(4))
	lexed(t, "a// b\tc", a, end(7))
	lexed(t, "a//", a, end(3))
	lexed(t, "a///", a, end(4))
	lexed(t, "a//b\r", a, end(5))
	b.At = 5
	lexed(t, "a//\r\nb", a, b, end(6))
	b.At = 4
	lexed(t, "a//\nb", a, b, end(5))
	lexed(t, "1//\n", api.Token{Kind: api.TokInt, Text: "1"}, end(4))
	refused(t, "a//\n/b", api.ErrToken, 4)
	refused(t, "a/b//", api.ErrToken, 1)
	refused(t, "a/", api.ErrToken, 1)
	refused(t, "a//\n@", api.ErrToken, 4)
}

func TestBytesThatBeginNothing(t *testing.T) {
	begins := "\t\n !&()*+,-.0123456789:;<=>ABCDEFGHIJKLMNOPQRSTUVWXYZ_abcdefghijklmnopqrstuvwxyz{}"
	for _, c := range []byte(all()) {
		s := string([]byte{c})
		if strings.Contains(begins, s) {
			if _, err := lex.Lex(s); err != nil {
				t.Errorf("%q: %v", s, err)
			}
			continue
		}
		refused(t, s, api.ErrToken, 0)
		refused(t, " \n"+s, api.ErrToken, 2)
		refused(t, "ab"+s+" c", api.ErrToken, 2)
		refused(t, "// x\n"+s, api.ErrToken, 5)
		lexed(t, "//"+s, end(3))
	}
}

func TestTheFirstPlaceIsTold(t *testing.T) {
	refused(t, "a @ 01 '", api.ErrToken, 2)
	refused(t, "a 01 @ '", api.ErrToken, 2)
	refused(t, "a ' 01 @", api.ErrToken, 2)
	refused(t, "fn f() { x = 1a; @ }", api.ErrToken, 13)
	refused(t, strings.Repeat("a ", 1000)+"é"+strings.Repeat(" @", 1000), api.ErrToken, 2000)
}

func TestTextsOfMaxText(t *testing.T) {
	for piece, tokens := range map[string]int{"(": api.MaxText, " ": 0, "\n": 0, "a ": api.MaxText / 2, "'a": api.MaxText / 2, "->": api.MaxText / 2, "//": 0, "//x\n": 0, "1\t": api.MaxText / 2, "==fn": api.MaxText / 2} {
		s := strings.Repeat(piece, api.MaxText/len(piece))
		if len(s) != api.MaxText {
			t.Fatalf("%q: %d bytes", piece, len(s))
		}
		got, err := lex.Lex(s)
		if err != nil || len(got) != tokens+1 || got[tokens] != end(api.MaxText) {
			t.Errorf("%q: %d tokens, %v, not %d", piece, len(got), err, tokens+1)
		}
		refused(t, s+" ", api.ErrLong, 0)
		refused(t, s+piece+piece, api.ErrLong, 0)
	}
	blank := strings.Repeat(" ", api.MaxText-1)
	lexed(t, blank, end(api.MaxText-1))
	lexed(t, blank+"a", api.Token{Kind: api.TokName, Text: "a", At: api.MaxText - 1}, end(api.MaxText))
	refused(t, blank+"@", api.ErrToken, api.MaxText-1)
}

func TestTooLongGoesAheadOfWrong(t *testing.T) {
	for _, s := range []string{"a", "1", "0", "'", "/ ", "@", "\x00", "\xff"} {
		refused(t, strings.Repeat(s, api.MaxText/len(s)), api.ErrToken, 0)
		refused(t, strings.Repeat(s, api.MaxText/len(s)+1), api.ErrLong, 0)
	}
	refused(t, strings.Repeat(" ", api.MaxText)+"@", api.ErrLong, 0)
	refused(t, strings.Repeat("a ", 1<<24), api.ErrLong, 0)
}

func TestAllShortTexts(t *testing.T) {
	each(1, all(), func(s string) { asWanted(t, s) })
	each(2, all(), func(s string) { asWanted(t, s) })
	each(3, edges, func(s string) { asWanted(t, s) })
	each(4, " \n/'01a_:-=>", func(s string) { asWanted(t, s) })
	each(6, "/\na'", func(s string) { asWanted(t, s) })
}

func TestTextsByChance(t *testing.T) {
	r := rand.New(rand.NewSource(6))
	right := 0
	for range 30000 {
		s := someText(r, r.Intn(2) == 0)
		asWanted(t, s)
		if _, _, ok := wantTokens(s); ok {
			right++
		}
	}
	if right < 5000 || right > 25000 {
		t.Errorf("%d of the texts are right", right)
	}
}

// 6.2

func names(t *testing.T, s string, name, word bool) {
	t.Helper()
	if lex.Name(s) != name {
		t.Errorf("Name of %q: %t", short(s), !name)
	}
	if lex.Word(s) != word {
		t.Errorf("Word of %q: %t", short(s), !word)
	}
}

func TestNameAndWord(t *testing.T) {
	for _, s := range []string{"a", "z", "A", "Z", "_", "__", "a0", "a9", "_9", "Az_09", "static", "self", "fnx", "x_fn", strings.Repeat("a", api.MaxName), "_" + strings.Repeat("0", api.MaxName-1)} {
		names(t, s, true, false)
	}
	for _, s := range words() {
		names(t, s, false, true)
		for _, name := range []string{s + "a", s + "_", s + "0", "x" + s, "_" + s, s + s, s[1:], s[:len(s)-1], strings.ToUpper(s), strings.ToUpper(s[:1]) + s[1:]} {
			names(t, name, true, false)
		}
		for _, no := range []string{s + " ", " " + s, s + "\n", s + "\x00", "'" + s, s + "-", "1" + s, s + " " + s, s + "é"} {
			names(t, no, false, false)
		}
	}
	for _, s := range []string{"", " ", "0", "1", "1a", "9_", "'", "'a", "a'", "a b", " a", "a ", "a\n", "a\t", "a\x00", "\x00", "a-b", "a::b", "é", "aé", "a\x80", "//", "a//", "(", "::", strings.Repeat("a", api.MaxName+1), strings.Repeat("_", api.MaxText), strings.Repeat("a", api.MaxName) + " "} {
		names(t, s, false, false)
	}
}

func TestNameAndWordOfAllShortTexts(t *testing.T) {
	ask := func(s string) {
		word := slices.Contains(words(), s)
		names(t, s, nameForm.MatchString(s) && !word, word)
	}
	each(1, all(), ask)
	each(2, all(), ask)
	each(3, edges, ask)
	for _, c := range []byte(all()) {
		for i := range api.MaxName {
			b := []byte(strings.Repeat("a", api.MaxName))
			b[i] = c
			ask(string(b))
		}
	}
}

// A name, or a word, is what Lex takes as one, from its first byte to its last one.
func TestNameAndWordAreLexs(t *testing.T) {
	ask := func(s string) {
		l, _ := lex.Lex(s)
		whole := len(l) == 2 && l[0].Text == s
		names(t, s, whole && l[0].Kind == api.TokName, whole && l[0].Kind == api.TokWord)
	}
	each(3, edges, ask)
	r := rand.New(rand.NewSource(62))
	for range 10000 {
		ask(strings.TrimSpace(someText(r, true)))
	}
}

// 6.3

// ends are the places right behind the tokens, but for the last one.
func ends(tokens []api.Token) []int {
	var behind []int
	for _, x := range tokens[:len(tokens)-1] {
		size := len(x.Text)
		if x.Kind == api.TokLife {
			size++
		}
		behind = append(behind, x.At+size)
	}
	return behind
}

// stands asks whether the tokens stand in the text where they say, with nothing else between them.
func stands(t *testing.T, s string, tokens []api.Token) {
	t.Helper()
	at := 0
	for i, x := range tokens {
		if x.At < at || x.At > len(s) {
			t.Fatalf("%q: the token %d stands at %d, behind one up to %d", short(s), i, x.At, at)
		}
		if gap := s[at:x.At]; blanks.FindString(gap) != gap {
			t.Errorf("%q: %q stands ahead of the token at %d", short(s), gap, x.At)
		}
		text := x.Text
		if x.Kind == api.TokLife {
			text = "'" + text
		}
		if !strings.HasPrefix(s[x.At:], text) {
			t.Errorf("%q: no %q stands at %d", short(s), text, x.At)
		}
		if last := i == len(tokens)-1; last != (x.Kind == api.TokEnd) || last != (text == "") {
			t.Errorf("%q: the token %d of %d is %v", short(s), i, len(tokens), x)
		}
		at = x.At + len(text)
	}
	if at != len(s) {
		t.Errorf("%q: the last token ends at %d", short(s), at)
	}
}

func TestTokensStandWhereTheySay(t *testing.T) {
	r := rand.New(rand.NewSource(63))
	for range 20000 {
		s := someText(r, false)
		if tokens, err := lex.Lex(s); err == nil {
			stands(t, s, tokens)
		}
	}
	for _, s := range []string{"", " ", function, "a", "'a", "'a'fn", "x::y", "a//", "// x\n'a//\n1"} {
		tokens, err := lex.Lex(s)
		if err != nil {
			t.Fatalf("%q: %v", s, err)
		}
		stands(t, s, tokens)
	}
}

// gaps are what may be put between two tokens.
func gaps() []string {
	return []string{" ", "\t", "\n", " \n\t ", "//\n", "// x\n", "//'01@\xff//\r\n", " // a\n\t// b\n\n", "///\n"}
}

// moved are the tokens behind a gap that was put in at a place.
func moved(tokens []api.Token, at, size int) []api.Token {
	out := slices.Clone(tokens)
	for i := range out {
		if out[i].At >= at {
			out[i].At += size
		}
	}
	return out
}

// around are the places right ahead of each token, and right behind it.
func around(tokens []api.Token) []int {
	places := append(ends(tokens), 0)
	for _, x := range tokens[:len(tokens)-1] {
		places = append(places, x.At)
	}
	return places
}

func TestBlanksChangeNothingButThePlaces(t *testing.T) {
	r := rand.New(rand.NewSource(64))
	ask := func(s string) {
		tokens, err := lex.Lex(s)
		if err != nil {
			return
		}
		for _, at := range around(tokens) {
			gap := gaps()[r.Intn(len(gaps()))]
			lexed(t, s[:at]+gap+s[at:], moved(tokens, at, len(gap))...)
		}
	}
	for range 5000 {
		ask(someText(r, false))
	}
	for range 20 {
		ask(function)
		ask("a'b'c::d-1->2==3=e(){}<>,;:.*&+!")
	}
}

func TestBlanksBetweenAllTokens(t *testing.T) {
	tight := "a'b'c::d-1->2==3=e(){}<>,;:.*&+!fn-'fn"
	tokens, err := lex.Lex(tight)
	if err != nil {
		t.Fatal(err)
	}
	for _, gap := range gaps() {
		s, want := tight, tokens
		places := append([]int{0}, ends(tokens)...)
		slices.Reverse(places)
		for _, at := range places {
			s, want = s[:at]+gap+s[at:], moved(want, at, len(gap))
		}
		lexed(t, s, want...)
	}
}

// Of a text that is wrong at a place, what is put between the tokens ahead of it moves the place alone.
func TestBlanksAheadOfAWrongPlace(t *testing.T) {
	r := rand.New(rand.NewSource(65))
	for range 5000 {
		s := someText(r, true)
		_, err := lex.Lex(s)
		if err == nil {
			continue
		}
		wrong := fault.At(err)
		tokens, err := lex.Lex(s[:wrong])
		if err != nil {
			t.Fatalf("%q: wrong at %d, but not the first: %v", short(s), wrong, err)
		}
		for _, at := range append(around(tokens), wrong) {
			gap := gaps()[r.Intn(len(gaps()))]
			refused(t, s[:at]+gap+s[at:], api.ErrToken, wrong+len(gap))
		}
	}
}

// What holds for all calls

func TestTokensAreTheCallersOwn(t *testing.T) {
	first, _ := lex.Lex(function)
	want := slices.Clone(first)
	clear(first)
	lexed(t, function, want...)
}

func TestTokensKeepNothingOfTheText(t *testing.T) {
	s := strings.Clone(function)
	from := uintptr(unsafe.Pointer(unsafe.StringData(s)))
	tokens, err := lex.Lex(s)
	if err != nil {
		t.Fatal(err)
	}
	for _, x := range tokens[:len(tokens)-1] {
		if at := uintptr(unsafe.Pointer(unsafe.StringData(x.Text))); at >= from && at < from+uintptr(len(s)) {
			t.Errorf("the token at %d is a piece of the text", x.At)
		}
	}
}
