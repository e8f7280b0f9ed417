package sig_test

import (
	"bytes"
	"crypto/sha256"
	"encoding/binary"
	"fmt"
	"math"
	"slices"
	"testing"

	"usufruct/api"
	"usufruct/sig"
)

// 12.2

func TestPutByHand(t *testing.T) {
	for _, c := range []struct {
		text string
		want []byte
	}{
		{"", joined(0, 0)},
		{"fn q() { }", joined(0, 0)},
		{"pub fn f() { }", joined(0, 1, 1, "f", 0, 0, 0)},
		{"pub fn f() -> int { return 1; }", joined(0, 1, 1, "f", 0, 0, 1)},
		{"pub fn f() -> bool { return true; }", joined(0, 1, 1, "f", 0, 0, 2)},
		{"pub fn f(x: int, mut yy: bool) { }", joined(0, 1, 1, "f", 0, 2, 0, 1, "x", 1, 1, 2, "yy", 2, 0)},
		{"pub fn f(x: &'a S) { }", joined(0, 1, 1, "f", 0, 1, 0, 1, "x", 4, 1, 1, "a", 3, 1, "S", 0, 0)},
		{"pub fn f(x: &mut d::T<'a, 'fn>) { }", joined(0, 1, 1, "f", 0, 1, 0, 1, "x", 5, 0, 3, 4, "d::T", 2, 1, "a", 2, "fn", 0)},
		{"pub fn f<'a, 'b: 'a, 'c: 'a + 'b>() -> & &'c mut int { }", joined(0, 1, 1, "f", 3, 1, "a", 0, 1, "b", 1, 1, "a", 1, "c", 2, 1, "a", 1, "b", 0, 4, 0, 5, 1, 1, "c", 1)},
		{"pub struct S { }", joined(1, 1, "S", 0, 0, 0)},
		{"pub struct S<'a, 'b> { f: &'a mut int, gg: T }", joined(1, 1, "S", 2, 1, "a", 1, "b", 2, 1, "f", 5, 1, 1, "a", 1, 2, "gg", 3, 1, "T", 0, 0)},
		{"pub fn g() { } pub struct S { } fn q() { } pub struct T { x: bool } struct P { } pub fn f() { }",
			joined(2, 1, "S", 0, 0, 1, "T", 0, 1, 1, "x", 2, 2, 1, "g", 0, 0, 0, 1, "f", 0, 0, 0)},
	} {
		want := joined(head(), c.want)
		if b := put(t, sig.Of("k", parsed(t, c.text))); !bytes.Equal(b, want) {
			t.Errorf("12.2: %q: % x, not % x", c.text, b, want)
		}
	}
}

func TestPutOfAnOrdinarySigByHand(t *testing.T) {
	s := sig.Of("key", parsed(t, "pub struct S<'a> { f: &'a mut int, g: bool } struct P { } fn q() { } pub fn f<'a: 'b, 'b>(mut x: S<'a>, y: &'b int) -> d::T<'b> { g(); }"))
	want := joined(4, "USIG", 3, "key",
		1, 1, "S", 1, 1, "a", 2, 1, "f", 5, 1, 1, "a", 1, 1, "g", 2,
		1, 1, "f", 2, 1, "a", 1, 1, "b", 1, "b", 0, 2, 1, 1, "x", 3, 1, "S", 1, 1, "a", 0, 1, "y", 4, 1, 1, "b", 1, 3, 4, "d::T", 1, 1, "b")
	if b := put(t, s); !bytes.Equal(b, want) {
		t.Fatalf("12.2: % x, not % x", b, want)
	}
	if h, err := sig.Hash(s); err != nil || h != sha256.Sum256(want) {
		t.Fatalf("12.3: Hash: %x, %v", h, err)
	}
}

func TestPutOfLongNumbers(t *testing.T) {
	s := api.Sig{Name: "k", Structs: someStructs(127), Funcs: someFuncs(129)}
	b := put(t, s)
	if !bytes.HasPrefix(b, joined(head(), 127, 2, "S0")) || !bytes.Contains(b, joined(0, 0, 0x81, 1, 2, "f0")) {
		t.Fatalf("12.2: %s", short(b))
	}
	b = put(t, api.Sig{Name: "k", Funcs: someFuncs(256)})
	if !bytes.HasPrefix(b, joined(head(), 0, 0x80, 2, 2, "f0")) {
		t.Fatalf("12.2: %s", short(b))
	}
}

func TestPutTakesNilAndEmptyListsAsOne(t *testing.T) {
	if !bytes.Equal(put(t, full()), put(t, hollowed(full()))) {
		t.Fatal("12.2: lists that are empty, but not nil")
	}
}

func TestPutIsTheCallersOwn(t *testing.T) {
	s := full()
	first := put(t, s)
	clear(first)
	again := put(t, s)
	if bytes.Equal(first, again) {
		t.Fatal("12.2: it changes with an elder answer")
	}
}

// 12.3

func TestHashIsThatOfTheBytes(t *testing.T) {
	h, err := sig.Hash(api.Sig{Name: "k"})
	if err != nil || h != sha256.Sum256(joined(head(), 0, 0)) {
		t.Fatalf("12.3: %x, %v", h, err)
	}
	other, err := sig.Hash(api.Sig{Name: "K"})
	if err != nil || other == h {
		t.Fatalf("12.3: another name's: %x, %v", other, err)
	}
}

func TestGetByHand(t *testing.T) {
	s := got(t, joined(head(), 1, 1, "S", 1, 1, "a", 1, 1, "f", 5, 1, 1, "a", 1, 1, 1, "g", 1, 1, "b", 1, 1, "a", 1, 1, 1, "x", 3, 4, "d::T", 0, 4, 0, 2))
	want := api.Sig{
		Name:    "k",
		Structs: []api.Struct{{Pub: true, Name: "S", Lives: []string{"a"}, Fields: []api.Field{field("f", mutRef(number(), "a"))}}},
		Funcs: []api.Func{{Pub: true, Name: "g", Lives: []api.Life{{Name: "b", Over: []string{"a"}}},
			Params: []api.Field{mutParam("x", named("d::T"))}, Result: ref(truth())}},
	}
	if !alike(s, want) {
		t.Fatalf("12.3: %s, not %s", short(s), short(want))
	}
}

func TestGetOfNoBytes(t *testing.T) {
	noSig(t, "nil", nil)
	noSig(t, "no bytes", []byte{})
}

func TestGetOfOtherMarks(t *testing.T) {
	for _, mark := range []string{"", "USI", "USIH", "usig", "USIGG", "XUSIG", "k", "\x00\x00\x00\x00"} {
		noSig(t, "the mark "+mark, joined(len(mark), mark, 1, "k", 0, 0))
	}
	noSig(t, "no mark", joined(1, "k", 0, 0))
	noSig(t, "a mark without its length", joined("USIG", 1, "k", 0, 0))
	noSig(t, "two marks", joined(4, "USIG", head(), 0, 0))
	got(t, joined(4, "USIG", 4, "USIG", 0, 0))
}

// Every sig that is asked here is ordinary in another way.
func ordinary() []api.Sig {
	return []api.Sig{
		{Name: "k"},
		full(),
		ofField(named("d::T", "a")),
		ofParam(mutRef(ref(number(), "a"))),
		ofResult(api.Type{}),
		{Name: "k", Structs: someStructs(130), Funcs: someFuncs(126)},
		ofResult(deep(api.MaxDepth)),
	}
}

func TestGetOfBytesThatAreCutShort(t *testing.T) {
	for _, s := range ordinary() {
		b := put(t, s)
		for n := range b {
			noSig(t, fmt.Sprint(n, " bytes"), b[:n])
			noSig(t, fmt.Sprint("bytes from ", n+1), b[n+1:])
		}
	}
}

func TestGetOfBytesWithMoreBehind(t *testing.T) {
	for _, s := range ordinary() {
		b := put(t, s)
		for more := range 256 {
			noSig(t, "one more", joined(b, more))
		}
		noSig(t, "it twice", joined(b, b))
		noSig(t, "nought ahead", joined(0, b))
	}
}

func TestGetOfBytesWithOneTurned(t *testing.T) {
	for _, s := range ordinary()[:5] {
		b := put(t, s)
		for i := range b {
			was := b[i]
			for turned := range 256 {
				b[i] = byte(turned)
				asked(t, b)
			}
			b[i] = was
		}
	}
}

func TestGetOfBytesWithOneLeftOutOrPutIn(t *testing.T) {
	for _, s := range ordinary()[:5] {
		b := put(t, s)
		for i := range b {
			asked(t, slices.Delete(bytes.Clone(b), i, i+1))
			for in := range 8 {
				asked(t, slices.Insert(bytes.Clone(b), i, byte(in)))
			}
		}
	}
}

// Each number is written with groups of nought behind it.
func TestGetOfLongerNumbers(t *testing.T) {
	for _, s := range ordinary() {
		p := wantPut(s)
		for _, at := range p.numbers {
			_, n := binary.Uvarint(p.bytes[at:])
			last := at + n - 1
			for _, noughts := range [][]byte{{0}, {0x80, 0}, {0x80, 0x80, 0x80, 0x80, 0x80, 0x80, 0x80, 0x80, 0}} {
				b := joined(p.bytes[:last], int(p.bytes[last]|0x80), noughts, p.bytes[last+1:])
				noSig(t, fmt.Sprint("a longer number at ", at), b)
			}
		}
	}
}

// Each number is another one, with what stands behind it as it was.
func TestGetOfOtherNumbers(t *testing.T) {
	for _, s := range ordinary()[:5] {
		p := wantPut(s)
		for _, at := range p.numbers {
			v, n := binary.Uvarint(p.bytes[at:])
			for _, other := range []uint64{v + 1, v - 1, 64, 65, 66, 67, 256, 257, math.MaxInt32, 1 << 32, math.MaxInt64, 1 << 63, 1<<63 + v, 1<<32 + v, 256 + v} {
				asked(t, joined(p.bytes[:at], binary.AppendUvarint(nil, other), p.bytes[at+n:]))
			}
		}
	}
}

func TestGetOfOtherTruths(t *testing.T) {
	for mut := 2; mut < 256; mut++ {
		noSig(t, "a Bool", joined(head(), 0, 1, 1, "f", 0, 1, mut, 1, "x", 1, 0))
	}
	noSig(t, "a Bool of two bytes", joined(head(), 0, 1, 1, "f", 0, 1, 0x81, 0, 1, "x", 1, 0))
}

func TestGetOfSigsThatMayNotBe(t *testing.T) {
	for _, s := range badSigs() {
		noSig(t, short(s), wantPut(s).bytes)
	}
}

// Structs, functions and types without end are told by few bytes, or by many.
func TestGetEnds(t *testing.T) {
	type wide struct {
		what string
		b    []byte
	}
	many := 1 << 20
	for _, w := range []wide{
		{"a type within types", joined(head(), 0, 1, 1, "f", 0, 0, slices.Repeat([]byte{4, 0}, many))},
		{"a type within types that ends", joined(head(), 0, 1, 1, "f", 0, 0, slices.Repeat([]byte{5, 1, 1, 'a'}, many), 1)},
		{"a type that is one too deep", joined(head(), 0, 1, 1, "f", 0, 0, slices.Repeat([]byte{4, 0}, api.MaxDepth), 1)},
		{"a type that ends as deep as may be", joined(head(), 0, 1, 1, "f", 0, 0, slices.Repeat([]byte{4, 0}, api.MaxDepth))},
		{"noughts", joined(head(), make([]byte, many))},
		{"groups", joined(head(), slices.Repeat([]byte{0x80}, many))},
		{"functions", joined(head(), 0, binary.AppendUvarint(nil, uint64(many)), slices.Repeat([]byte{1, 'f', 0, 0, 0}, many))},
		{"structs", joined(head(), binary.AppendUvarint(nil, uint64(many)), slices.Repeat([]byte{1, 'S', 0, 0}, many), 0)},
		{"a long name", joined(4, "USIG", binary.AppendUvarint(nil, uint64(many)), long(many), 0, 0)},
		{"lists that are not there", joined(head(), 0xFF, 0xFF, 0xFF, 0xFF, 0x0F)},
		{"as many structs as may be that are not there", joined(head(), 0x80, 2)},
	} {
		noSig(t, w.what, w.b)
	}
}

func TestGetIsTheCallersOwn(t *testing.T) {
	b := put(t, full())
	s, again := got(t, b), got(t, b)
	own(t, "12.3: Get", s, again)
	kept(t, "Get", b, func(b []byte) { sig.Get(b) })
	kept(t, "Get", b[:9], func(b []byte) { sig.Get(b) })
	clear(b)
	if !alike(s, full()) || !alike(again, full()) {
		t.Fatal("12.3: it changes with the bytes")
	}
	s.Structs[0].Fields[0].Type.Lives[0] = "x"
	s.Funcs[0].Lives[0].Over[0] = "x"
	if !alike(again, full()) {
		t.Fatal("12.3: it changes with another answer")
	}
}

// 12.4

func TestGetOfPutIsTheSig(t *testing.T) {
	for _, s := range ordinary() {
		b := put(t, s)
		back := got(t, b)
		if !alike(back, s) || !sig.May(back) || !bytes.Equal(put(t, back), b) {
			t.Fatalf("12.4: %s", short(s))
		}
	}
}

func TestWhatIsNotSeen(t *testing.T) {
	want := sig.Of("k", parsed(t, "pub struct S { x: int } pub fn f(x: S) -> int { }"))
	hash, err := sig.Hash(want)
	if err != nil {
		t.Fatal(err)
	}
	for _, text := range []string{
		"pub struct S { x: int } pub fn f(x: S) -> int { return 1; }",
		"pub fn f(x: S) -> int { return 1; } pub struct S { x: int }",
		"  // a remark\n pub struct S { x: int } fn g() { } pub fn f(x: S) -> int { loop { } }",
		"struct T { } pub struct S { x: int } struct S { } pub fn f(x: S) -> int { } fn f() { }",
		"fn f<'a>(x: &'a S) { } pub struct S { x: int } pub fn f(x: S) -> int { let x: int = 1; if true { } else { g(); } }",
	} {
		s := sig.Of("k", parsed(t, text))
		if !alike(s, want) || !bytes.Equal(put(t, s), put(t, want)) {
			t.Errorf("12.4: %q: %s, not %s", text, short(s), short(want))
		}
		if h, err := sig.Hash(s); err != nil || h != hash {
			t.Errorf("12.4: the Hash of %q", text)
		}
	}
}

func TestWhatIsSeen(t *testing.T) {
	texts := []string{
		"pub struct S { x: int } pub fn f(x: S) -> int { }",
		"struct S { x: int } pub fn f(x: S) -> int { }",
		"pub struct S { x: int } fn f(x: S) -> int { }",
		"pub struct S { y: int } pub fn f(x: S) -> int { }",
		"pub struct S { x: bool } pub fn f(x: S) -> int { }",
		"pub struct S { } pub fn f(x: S) -> int { }",
		"pub struct S<'a> { x: int } pub fn f(x: S) -> int { }",
		"pub struct S { x: int } pub fn g(x: S) -> int { }",
		"pub struct S { x: int } pub fn f(y: S) -> int { }",
		"pub struct S { x: int } pub fn f(mut x: S) -> int { }",
		"pub struct S { x: int } pub fn f(x: &S) -> int { }",
		"pub struct S { x: int } pub fn f(x: &mut S) -> int { }",
		"pub struct S { x: int } pub fn f(x: &'a S) -> int { }",
		"pub struct S { x: int } pub fn f(x: S<'a>) -> int { }",
		"pub struct S { x: int } pub fn f(x: d::S) -> int { }",
		"pub struct S { x: int } pub fn f(x: S) { }",
		"pub struct S { x: int } pub fn f(x: S) -> bool { }",
		"pub struct S { x: int } pub fn f<'a>(x: S) -> int { }",
		"pub struct S { x: int } pub fn f<'a: 'a>(x: S) -> int { }",
		"pub struct S { x: int } pub fn f(x: S) -> int { } pub fn f(x: S) -> int { }",
		"pub struct S { x: int } pub struct S { x: int } pub fn f(x: S) -> int { }",
	}
	told := map[string]string{}
	for _, text := range texts {
		b := string(put(t, sig.Of("k", parsed(t, text))))
		if other, ok := told[b]; ok {
			t.Errorf("12.4: %q and %q have one sig", text, other)
		}
		told[b] = text
	}
}
