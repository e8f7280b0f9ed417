package wire_test

import (
	"bytes"
	"encoding/binary"
	"math"
	"math/rand"
	"slices"
	"strings"
	"testing"

	"usufruct/api"
	"usufruct/fault"
	"usufruct/wire"
)

func written(f func(w *wire.Writer)) []byte {
	w := wire.NewWriter()
	f(w)
	return w.Bytes()
}

func sumOf(first byte) api.Hash {
	var h api.Hash
	for i := range h {
		h[i] = first + byte(i)
	}
	return h
}

// nines is the nine first groups of every Uint of ten.
func nines(last ...byte) []byte {
	return append(slices.Repeat([]byte{0xFF}, 9), last...)
}

func same(t *testing.T, name string, got, want []byte) {
	t.Helper()
	if !bytes.Equal(got, want) {
		t.Errorf("%s: % x, not % x", name, got, want)
	}
}

// refused asks for the number and the place of an error, and that nothing but it is told and the reader stays.
func refused[T comparable](t *testing.T, name string, r *wire.Reader, read func() (T, error), code api.Errno, at int) {
	t.Helper()
	var zero T
	v, err := read()
	if fault.Code(err) != code || fault.At(err) != at || !slices.Equal(fault.Path(err), []int{at}) {
		t.Errorf("%s: error %d at %v, not %d at %d", name, fault.Code(err), fault.Path(err), code, at)
	}
	if v != zero {
		t.Errorf("%s: %v beside an error", name, v)
	}
	if r.At() != at {
		t.Errorf("%s: it stands at %d, not at %d", name, r.At(), at)
	}
}

func taken[T comparable](t *testing.T, name string, r *wire.Reader, read func() (T, error), want T, at int) {
	t.Helper()
	v, err := read()
	if err != nil || v != want {
		t.Errorf("%s: %v, %v, not %v", name, v, err, want)
	}
	if r.At() != at {
		t.Errorf("%s: it stands at %d, not at %d", name, r.At(), at)
	}
}

// 2.1

func TestUintIsItsGroups(t *testing.T) {
	for _, c := range []struct {
		v    uint64
		want []byte
	}{
		{0, []byte{0}},
		{1, []byte{1}},
		{127, []byte{0x7F}},
		{128, []byte{0x80, 1}},
		{300, []byte{0xAC, 2}},
		{1<<14 - 1, []byte{0xFF, 0x7F}},
		{1 << 14, []byte{0x80, 0x80, 1}},
		{math.MaxUint32, []byte{0xFF, 0xFF, 0xFF, 0xFF, 0x0F}},
		{1<<63 - 1, []byte{0xFF, 0xFF, 0xFF, 0xFF, 0xFF, 0xFF, 0xFF, 0xFF, 0x7F}},
		{1 << 63, []byte{0x80, 0x80, 0x80, 0x80, 0x80, 0x80, 0x80, 0x80, 0x80, 1}},
		{math.MaxUint64, nines(1)},
	} {
		same(t, "Uint", written(func(w *wire.Writer) { w.Uint(c.v) }), c.want)
	}
}

func TestUintAtEveryBit(t *testing.T) {
	for bit := range 64 {
		for _, v := range []uint64{1 << bit, 1<<bit - 1, 1<<bit + 1} {
			same(t, "Uint", written(func(w *wire.Writer) { w.Uint(v) }), binary.AppendUvarint(nil, v))
		}
	}
}

func TestIntIsAUint(t *testing.T) {
	for _, c := range []struct {
		v    int
		want uint64
	}{
		{0, 0}, {-1, 1}, {1, 2}, {-2, 3}, {2, 4}, {63, 126}, {-64, 127}, {64, 128}, {-65, 129},
		{api.MaxInt, 2 * api.MaxInt},
		{math.MaxInt, math.MaxUint64 - 1},
		{math.MinInt + 1, math.MaxUint64 - 2},
		{math.MinInt, math.MaxUint64},
	} {
		same(t, "Int", written(func(w *wire.Writer) { w.Int(c.v) }), binary.AppendUvarint(nil, c.want))
	}
}

func TestBoolIsAByte(t *testing.T) {
	same(t, "Bool", written(func(w *wire.Writer) { w.Bool(true); w.Bool(false) }), []byte{1, 0})
}

func TestTextIsItsLengthAndItsBytes(t *testing.T) {
	same(t, "no Text", written(func(w *wire.Writer) { w.Text("") }), []byte{0})
	same(t, "Text", written(func(w *wire.Writer) { w.Text("ab") }), []byte{2, 'a', 'b'})
	same(t, "bytes of no form", written(func(w *wire.Writer) { w.Text("\x00\xFF\x80") }), []byte{3, 0, 0xFF, 0x80})
	same(t, "bytes, not runes", written(func(w *wire.Writer) { w.Text("é") }), []byte{2, 0xC3, 0xA9})
	long := strings.Repeat("x", 300)
	same(t, "a long Text", written(func(w *wire.Writer) { w.Text(long) }), append([]byte{0xAC, 2}, long...))
}

func TestHashIsItsBytes(t *testing.T) {
	h := sumOf(0xF0)
	same(t, "Hash", written(func(w *wire.Writer) { w.Hash(h) }), h[:])
	same(t, "Hash of noughts", written(func(w *wire.Writer) { w.Hash(api.Hash{}) }), make([]byte, 32))
}

func TestBytesAreAllInOrder(t *testing.T) {
	h := sumOf(3)
	got := written(func(w *wire.Writer) {
		w.Uint(300)
		w.Int(-1)
		w.Bool(true)
		w.Text("ab")
		w.Hash(h)
		w.Uint(0)
	})
	want := append([]byte{0xAC, 2, 1, 1, 2, 'a', 'b'}, h[:]...)
	same(t, "all", got, append(want, 0))
	if b := wire.NewWriter().Bytes(); len(b) != 0 {
		t.Errorf("nothing written: % x", b)
	}
}

func TestBytesAreTheCallersOwn(t *testing.T) {
	w := wire.NewWriter()
	w.Text("ab")
	first := w.Bytes()
	for i := range first {
		first[i] = 9
	}
	_ = append(first, 9, 9, 9)
	w.Bool(true)
	same(t, "behind a change of the answer", w.Bytes(), []byte{2, 'a', 'b', 1})
	same(t, "an answer behind more writing", first, []byte{9, 9, 9})
	same(t, "asked again", w.Bytes(), w.Bytes())
}

func TestTwoWritersAreTwo(t *testing.T) {
	a, b := wire.NewWriter(), wire.NewWriter()
	a.Uint(1)
	b.Uint(2)
	same(t, "one", a.Bytes(), []byte{1})
	same(t, "the other", b.Bytes(), []byte{2})
}

// 2.2

func TestReadersGoOnBehindWhatTheyRead(t *testing.T) {
	h := sumOf(7)
	r := wire.NewReader(slices.Concat([]byte{0xAC, 2, 1, 1, 0, 2, 'a', 'b'}, h[:], []byte{5}))
	taken(t, "Uint", r, r.Uint, 300, 2)
	taken(t, "Int", r, r.Int, -1, 3)
	taken(t, "Bool", r, r.Bool, true, 4)
	taken(t, "Bool", r, r.Bool, false, 5)
	taken(t, "Text", r, func() (string, error) { return r.Text(2) }, "ab", 8)
	taken(t, "Hash", r, r.Hash, h, 40)
	if err := r.End(); fault.Code(err) != api.ErrForm || fault.At(err) != 40 || r.At() != 40 {
		t.Errorf("End with a byte left: %v", err)
	}
	taken(t, "Small", r, func() (int, error) { return r.Small(5) }, 5, 41)
	if err := r.End(); err != nil || r.At() != 41 {
		t.Errorf("End with none left: %v", err)
	}
}

func TestReaderStandsInACopy(t *testing.T) {
	b := []byte{2, 'a', 'b', 7}
	r := wire.NewReader(b[:3])
	b[1] = 'x'
	taken(t, "Text", r, func() (string, error) { return r.Text(9) }, "ab", 3)
	same(t, "what was handed in", b, []byte{2, 'x', 'b', 7})
	refused(t, "bytes behind it", r, r.Uint, api.ErrShort, 3)
}

func TestReaderOfNoBytes(t *testing.T) {
	for _, r := range []*wire.Reader{wire.NewReader(nil), wire.NewReader([]byte{}), {}, nil} {
		refused(t, "Uint", r, r.Uint, api.ErrShort, 0)
		refused(t, "Int", r, r.Int, api.ErrShort, 0)
		refused(t, "Small", r, func() (int, error) { return r.Small(9) }, api.ErrShort, 0)
		refused(t, "Small below", r, func() (int, error) { return r.Small(-1) }, api.ErrShort, 0)
		refused(t, "Bool", r, r.Bool, api.ErrShort, 0)
		refused(t, "Text", r, func() (string, error) { return r.Text(9) }, api.ErrShort, 0)
		refused(t, "Text below", r, func() (string, error) { return r.Text(-1) }, api.ErrShort, 0)
		refused(t, "Hash", r, r.Hash, api.ErrShort, 0)
		if err := r.End(); err != nil {
			t.Errorf("End: %v", err)
		}
	}
}

func TestNilWriterWritesNothing(t *testing.T) {
	var w *wire.Writer
	w.Uint(300)
	w.Int(-300)
	w.Bool(true)
	w.Text("ab")
	w.Hash(api.Hash{})
	if b := w.Bytes(); len(b) != 0 {
		t.Errorf("% x", b)
	}
}

func TestZeroWriterIsANewOne(t *testing.T) {
	var w wire.Writer
	w.Text("ab")
	same(t, "Text", w.Bytes(), []byte{2, 'a', 'b'})
}

// TestWrongUints reads each of them by all that begin with a Uint, at the beginning and further on.
func TestWrongUints(t *testing.T) {
	for _, c := range []struct {
		name string
		b    []byte
		code api.Errno
	}{
		{"one group without an end", []byte{0x80}, api.ErrShort},
		{"one full group without an end", []byte{0xFF}, api.ErrShort},
		{"two groups without an end", []byte{0x80, 0x80}, api.ErrShort},
		{"nine groups without an end", nines(), api.ErrShort},
		{"nine empty groups without an end", slices.Repeat([]byte{0x80}, 9), api.ErrShort},
		{"a last group of 0", []byte{0x80, 0}, api.ErrForm},
		{"a last group of 0 and more bytes", []byte{0x81, 0, 1}, api.ErrForm},
		{"a third group of 0", []byte{0xFF, 0x80, 0}, api.ErrForm},
		{"a tenth group of 0", nines(0), api.ErrForm},
		{"a tenth group of 2", nines(2), api.ErrForm},
		{"a tenth group of 3", nines(3), api.ErrForm},
		{"a tenth group of 127", nines(127), api.ErrForm},
		{"an eleventh group to come behind 0", nines(0x80), api.ErrForm},
		{"an eleventh group to come behind 1", nines(0x81), api.ErrForm},
		{"an eleventh group to come behind 2", nines(0x82), api.ErrForm},
		{"eleven groups", nines(0x81, 1), api.ErrForm},
		{"eleven groups with a last one of 0", nines(0x80, 0), api.ErrForm},
		{"eleven empty groups", append(slices.Repeat([]byte{0x80}, 10), 1), api.ErrForm},
		{"twenty groups without an end", slices.Repeat([]byte{0xFF}, 20), api.ErrForm},
	} {
		for _, ahead := range []int{0, 1, 12} {
			r := wire.NewReader(append(slices.Repeat([]byte{1}, ahead), c.b...))
			for range ahead {
				r.Bool()
			}
			refused(t, c.name, r, r.Uint, c.code, ahead)
			refused(t, c.name, r, r.Uint, c.code, ahead)
			refused(t, c.name, r, r.Int, c.code, ahead)
			for _, most := range []int{math.MinInt, -1, 0, 5, math.MaxInt} {
				refused(t, c.name, r, func() (int, error) { return r.Small(most) }, c.code, ahead)
				refused(t, c.name, r, func() (string, error) { return r.Text(most) }, c.code, ahead)
			}
		}
	}
}

func TestTenGroupsAreRead(t *testing.T) {
	r := wire.NewReader(nines(1))
	taken(t, "the greatest Uint", r, r.Uint, math.MaxUint64, 10)
	r = wire.NewReader(append(slices.Repeat([]byte{0x80}, 9), 1))
	taken(t, "empty groups and a tenth", r, r.Uint, 1<<63, 10)
	r = wire.NewReader(nines(1))
	taken(t, "the least Int", r, r.Int, math.MinInt, 10)
	r = wire.NewReader(append([]byte{0xFE}, nines(1)[1:]...))
	taken(t, "the greatest Int", r, r.Int, math.MaxInt, 10)
	r = wire.NewReader([]byte{0})
	taken(t, "the only group of 0", r, r.Uint, 0, 1)
}

func TestSmall(t *testing.T) {
	b := written(func(w *wire.Writer) { w.Bool(true); w.Uint(300); w.Uint(math.MaxInt); w.Uint(math.MaxInt + 1) })
	r := wire.NewReader(b)
	small := func(most int) func() (int, error) {
		return func() (int, error) { return r.Small(most) }
	}
	r.Bool()
	for _, most := range []int{299, 0, -1, -301, math.MinInt} {
		refused(t, "above", r, small(most), api.ErrRange, 1)
	}
	taken(t, "just the most", r, small(300), 300, 3)
	refused(t, "above", r, small(math.MaxInt-1), api.ErrRange, 3)
	taken(t, "the greatest int", r, small(math.MaxInt), math.MaxInt, 12)
	refused(t, "above all ints", r, small(math.MaxInt), api.ErrRange, 12)
	refused(t, "above all ints, below 0", r, small(-1), api.ErrRange, 12)

	r = wire.NewReader([]byte{0})
	refused(t, "0 of a most below 0", r, small(-1), api.ErrRange, 0)
	taken(t, "0 of 0", r, small(0), 0, 1)
}

func TestBool(t *testing.T) {
	for x := 2; x < 256; x++ {
		r := wire.NewReader([]byte{1, byte(x)})
		taken(t, "Bool", r, r.Bool, true, 1)
		refused(t, "another byte", r, r.Bool, api.ErrForm, 1)
	}
}

func TestText(t *testing.T) {
	r := wire.NewReader([]byte{1, 3, 'a', 'b', 'c', 0, 2, 'd'})
	text := func(most int) func() (string, error) {
		return func() (string, error) { return r.Text(most) }
	}
	r.Bool()
	for _, most := range []int{2, 0, -1, -4, math.MinInt} {
		refused(t, "above", r, text(most), api.ErrLong, 1)
	}
	taken(t, "just the most", r, text(3), "abc", 5)
	refused(t, "no bytes of a most below 0", r, text(-1), api.ErrLong, 5)
	taken(t, "no bytes", r, text(0), "", 6)
	refused(t, "too long ahead of too short", r, text(1), api.ErrLong, 6)
	refused(t, "too short", r, text(2), api.ErrShort, 6)
	refused(t, "too short", r, text(math.MaxInt), api.ErrShort, 6)
}

func TestTextOfAHugeLength(t *testing.T) {
	for _, v := range []uint64{1 << 31, math.MaxInt - 9, math.MaxInt} {
		b := written(func(w *wire.Writer) { w.Uint(v); w.Uint(v) })
		r := wire.NewReader(b)
		refused(t, "huge", r, func() (string, error) { return r.Text(math.MaxInt) }, api.ErrShort, 0)
		taken(t, "then a Uint", r, r.Uint, v, len(b)/2)
		refused(t, "huge", r, func() (string, error) { return r.Text(math.MaxInt) }, api.ErrShort, len(b)/2)
	}
	r := wire.NewReader(nines(1, 'a'))
	refused(t, "above all ints", r, func() (string, error) { return r.Text(math.MaxInt) }, api.ErrLong, 0)
}

func TestHashIsShort(t *testing.T) {
	for n := range 32 {
		r := wire.NewReader(append([]byte{0}, make([]byte, n)...))
		r.Bool()
		refused(t, "Hash", r, r.Hash, api.ErrShort, 1)
	}
}

func TestEndChangesNothing(t *testing.T) {
	r := wire.NewReader([]byte{1, 0})
	for range 2 {
		if err := r.End(); fault.Code(err) != api.ErrForm || fault.At(err) != 0 {
			t.Errorf("End: %v", err)
		}
	}
	taken(t, "Bool", r, r.Bool, true, 1)
	if err := r.End(); fault.Code(err) != api.ErrForm || fault.At(err) != 1 {
		t.Errorf("End: %v", err)
	}
	taken(t, "Bool", r, r.Bool, false, 2)
	if err := r.End(); err != nil {
		t.Errorf("End: %v", err)
	}
}

// 2.3

// thing writes one value, and asks for it back.
type thing struct {
	write func(w *wire.Writer)
	read  func(r *wire.Reader) bool
}

func anyThing(dice *rand.Rand) thing {
	u := dice.Uint64() >> dice.Intn(64)
	switch dice.Intn(6) {
	case 0:
		return thing{func(w *wire.Writer) { w.Uint(u) }, func(r *wire.Reader) bool { v, err := r.Uint(); return err == nil && v == u }}
	case 1:
		i := int(u)
		return thing{func(w *wire.Writer) { w.Int(i) }, func(r *wire.Reader) bool { v, err := r.Int(); return err == nil && v == i }}
	case 2:
		o := u%2 == 1
		return thing{func(w *wire.Writer) { w.Bool(o) }, func(r *wire.Reader) bool { v, err := r.Bool(); return err == nil && v == o }}
	case 3:
		b := make([]byte, dice.Intn(400))
		dice.Read(b)
		s := string(b)
		return thing{func(w *wire.Writer) { w.Text(s) }, func(r *wire.Reader) bool { v, err := r.Text(len(s)); return err == nil && v == s }}
	case 4:
		i := int(u >> 1)
		return thing{func(w *wire.Writer) { w.Uint(uint64(i)) }, func(r *wire.Reader) bool { v, err := r.Small(i); return err == nil && v == i }}
	}
	h := sumOf(byte(u))
	return thing{func(w *wire.Writer) { w.Hash(h) }, func(r *wire.Reader) bool { v, err := r.Hash(); return err == nil && v == h }}
}

func TestWhatWasWrittenIsRead(t *testing.T) {
	dice := rand.New(rand.NewSource(2))
	for range 300 {
		w := wire.NewWriter()
		var things []thing
		var ends []int
		for range dice.Intn(40) {
			x := anyThing(dice)
			x.write(w)
			things = append(things, x)
			ends = append(ends, len(w.Bytes()))
		}
		r := wire.NewReader(w.Bytes())
		for i, x := range things {
			if !x.read(r) || r.At() != ends[i] {
				t.Fatalf("thing %d of % x is another one, or ends at %d and not at %d", i, w.Bytes(), r.At(), ends[i])
			}
		}
		if r.End() != nil {
			t.Fatal("bytes are left")
		}
	}
}

// again reads one thing of b by each reading; what it took and wrote again must be what it went through.
func again(t *testing.T, b []byte) {
	t.Helper()
	w := wire.NewWriter()
	for name, read := range map[string]func(r *wire.Reader) error{
		"Uint":  func(r *wire.Reader) error { v, err := r.Uint(); w.Uint(v); return err },
		"Int":   func(r *wire.Reader) error { v, err := r.Int(); w.Int(v); return err },
		"Small": func(r *wire.Reader) error { v, err := r.Small(1 << 20); w.Uint(uint64(v)); return err },
		"Bool":  func(r *wire.Reader) error { v, err := r.Bool(); w.Bool(v); return err },
		"Text":  func(r *wire.Reader) error { v, err := r.Text(1 << 20); w.Text(v); return err },
		"Hash":  func(r *wire.Reader) error { v, err := r.Hash(); w.Hash(v); return err },
	} {
		*w = wire.Writer{}
		r := wire.NewReader(b)
		if err := read(r); err != nil {
			if r.At() != 0 || fault.At(err) != 0 {
				t.Fatalf("%s of % x: it went on with an error", name, b)
			}
			continue
		}
		if got := w.Bytes(); r.At() < 1 || r.At() > len(b) || !bytes.Equal(got, b[:r.At()]) {
			t.Fatalf("%s of % x went through %d bytes and is written % x", name, b, r.At(), got)
		}
	}
}

func TestAThingHasOneForm(t *testing.T) {
	for x := range 256 {
		again(t, []byte{byte(x)})
		for y := range 256 {
			again(t, []byte{byte(x), byte(y)})
			again(t, nines(byte(x), byte(y)))
		}
	}
	groups := []byte{0, 1, 2, 0x7F, 0x80, 0x81, 0xFF}
	dice := rand.New(rand.NewSource(3))
	for range 20000 {
		b := make([]byte, dice.Intn(40))
		for i := range b {
			b[i] = groups[dice.Intn(len(groups))]
		}
		again(t, b)
	}
}

func FuzzAgain(f *testing.F) {
	f.Add([]byte{0xAC, 2})
	f.Add(nines(1))
	f.Fuzz(func(t *testing.T, b []byte) { again(t, b) })
}
