package cas_test

import (
	"bytes"
	"crypto/sha256"
	"encoding/binary"
	"math"
	"math/rand"
	"slices"
	"strconv"
	"testing"

	"usufruct/api"
	"usufruct/cas"
	"usufruct/fault"
	"usufruct/sha"
)

func newStore(t *testing.T, room int) *cas.Store {
	t.Helper()
	s, err := cas.New(room)
	if err != nil || s == nil {
		t.Fatalf("New(%d): %v, %v", room, s, err)
	}
	return s
}

func put(t *testing.T, s *cas.Store, b []byte) api.Hash {
	t.Helper()
	h, err := s.Put(b)
	if err != nil {
		t.Fatalf("Put of %d bytes: %v", len(b), err)
	}
	if h != sha256.Sum256(b) {
		t.Fatalf("Put of %d bytes: %x is not their sum", len(b), h)
	}
	return h
}

func got(t *testing.T, s *cas.Store, h api.Hash, want []byte) {
	t.Helper()
	b, err := s.Get(h)
	if err != nil || !bytes.Equal(b, want) {
		t.Errorf("Get: %d bytes, %v; not the %d bytes that were put", len(b), err, len(want))
	}
	if !s.Has(h) {
		t.Error("Has: false of what is got")
	}
}

func refused(t *testing.T, what string, err error, want api.Errno) {
	t.Helper()
	if fault.Code(err) != want || !fault.Is(err, want) || !slices.Equal(fault.Path(err), []int{0}) {
		t.Errorf("%s: error %d at %v, not %d at 0", what, fault.Code(err), fault.Path(err), want)
	}
}

func putRefused(t *testing.T, s *cas.Store, b []byte, want api.Errno) {
	t.Helper()
	h, err := s.Put(b)
	refused(t, "Put", err, want)
	if h != (api.Hash{}) {
		t.Errorf("Put: %x beside an error", h)
	}
}

func getRefused(t *testing.T, s *cas.Store, h api.Hash, want api.Errno) {
	t.Helper()
	b, err := s.Get(h)
	refused(t, "Get", err, want)
	if len(b) != 0 {
		t.Errorf("Get: %x beside an error", b)
	}
}

// holds asks for all of a store: just these bytes are there, and no others.
func holds(t *testing.T, s *cas.Store, want ...string) {
	t.Helper()
	if s.Count() != len(want) {
		t.Errorf("Count: %d, not %d", s.Count(), len(want))
	}
	sums := []api.Hash{}
	for _, text := range want {
		h := sha256.Sum256([]byte(text))
		got(t, s, h, []byte(text))
		sums = append(sums, h)
	}
	slices.SortFunc(sums, func(a, b api.Hash) int { return bytes.Compare(a[:], b[:]) })
	if list := s.List(); !slices.Equal(list, sums) {
		t.Errorf("List: %x, not %x", list, sums)
	}
}

// 4.1

func TestNew(t *testing.T) {
	for _, room := range []int{1, 2, 100, api.MaxBlobs - 1, api.MaxBlobs} {
		s := newStore(t, room)
		holds(t, s)
		getRefused(t, s, api.Hash{}, api.ErrNone)
		getRefused(t, s, sha.Sum(nil), api.ErrNone)
		if s.Has(api.Hash{}) || s.Has(sha.Sum(nil)) {
			t.Errorf("New(%d): something is there", room)
		}
	}
}

func TestNewOutOfRange(t *testing.T) {
	for _, room := range []int{0, -1, -2, -api.MaxBlobs, math.MinInt, api.MaxBlobs + 1, api.MaxBlobs + 2, 1 << 32, 1<<32 + 1, math.MaxInt} {
		s, err := cas.New(room)
		refused(t, "New("+strconv.Itoa(room)+")", err, api.ErrRange)
		if s != nil {
			t.Errorf("New(%d): a store beside an error", room)
		}
	}
}

func TestPut(t *testing.T) {
	s := newStore(t, 10)
	put(t, s, []byte("one"))
	holds(t, s, "one")
	put(t, s, []byte("two"))
	put(t, s, []byte("onetwo"))
	put(t, s, []byte{0})
	holds(t, s, "one", "two", "onetwo", "\x00")
}

func TestPutOfTheSameBytes(t *testing.T) {
	s := newStore(t, 3)
	h := put(t, s, []byte("one"))
	if put(t, s, []byte("one")) != h {
		t.Error("Put of the same bytes: another sum")
	}
	holds(t, s, "one")
	put(t, s, []byte("two"))
	put(t, s, []byte("one"))
	put(t, s, []byte("two"))
	holds(t, s, "one", "two")
}

func TestPutOfNoBytes(t *testing.T) {
	for _, b := range [][]byte{nil, {}, make([]byte, 0, 8)} {
		s := newStore(t, 1)
		put(t, s, b)
		holds(t, s, "")
		put(t, s, nil)
		put(t, s, []byte{})
		holds(t, s, "")
		putRefused(t, s, []byte{0}, api.ErrFull)
	}
}

func TestPutOfManyBytes(t *testing.T) {
	s := newStore(t, 2)
	most := make([]byte, api.MaxBlob)
	most[api.MaxBlob-1] = 1
	h := put(t, s, most)
	got(t, s, h, most)
	putRefused(t, s, make([]byte, api.MaxBlob+1), api.ErrLong)
	putRefused(t, s, append(most, 0), api.ErrLong)
	putRefused(t, s, make([]byte, 2*api.MaxBlob), api.ErrLong)
	if s.Count() != 1 || !slices.Equal(s.List(), []api.Hash{h}) {
		t.Error("what is too long was kept")
	}
	put(t, s, most[:api.MaxBlob-1])
	if s.Count() != 2 {
		t.Errorf("Count: %d, not 2", s.Count())
	}
	putRefused(t, s, append(most, 0), api.ErrLong)
}

func TestPutWithoutRoom(t *testing.T) {
	s := newStore(t, 1)
	put(t, s, []byte("one"))
	putRefused(t, s, []byte("two"), api.ErrFull)
	putRefused(t, s, nil, api.ErrFull)
	holds(t, s, "one")
	put(t, s, []byte("one"))
	holds(t, s, "one")
	getRefused(t, s, sha.Sum([]byte("two")), api.ErrNone)
}

func numbered(n int) []byte {
	return binary.BigEndian.AppendUint64(nil, uint64(n))
}

func TestRoomForMaxBlobs(t *testing.T) {
	s := newStore(t, api.MaxBlobs)
	for n := range api.MaxBlobs {
		put(t, s, numbered(n))
		if s.Count() != n+1 {
			t.Fatalf("Count: %d, not %d", s.Count(), n+1)
		}
	}
	putRefused(t, s, numbered(api.MaxBlobs), api.ErrFull)
	refused(t, "Take", s.Take(sha.Sum(numbered(api.MaxBlobs)), numbered(api.MaxBlobs)), api.ErrFull)
	for n := range api.MaxBlobs {
		got(t, s, put(t, s, numbered(n)), numbered(n))
	}
	list := s.List()
	if len(list) != api.MaxBlobs || s.Count() != api.MaxBlobs {
		t.Fatalf("List of %d, Count %d", len(list), s.Count())
	}
	for i := 1; i < len(list); i++ {
		if !sha.Less(list[i-1], list[i]) {
			t.Fatalf("List does not rise at %d", i)
		}
	}
}

func TestTake(t *testing.T) {
	s := newStore(t, 4)
	for _, text := range []string{"one", "two", "", "one", "two", ""} {
		if err := s.Take(sha.Sum([]byte(text)), []byte(text)); err != nil {
			t.Errorf("Take of %q: %v", text, err)
		}
	}
	holds(t, s, "one", "two", "")
	if err := s.Take(sha.Sum(nil), nil); err != nil {
		t.Errorf("Take of nil: %v", err)
	}
	if h := put(t, s, []byte("three")); s.Take(h, []byte("three")) != nil {
		t.Error("Take of what was put")
	}
	put(t, s, []byte("one"))
	holds(t, s, "one", "two", "", "three")
}

func TestTakeWithAnotherSum(t *testing.T) {
	s := newStore(t, 4)
	one := put(t, s, []byte("one"))
	refused(t, "Take of two as one", s.Take(one, []byte("two")), api.ErrHash)
	refused(t, "Take by nought", s.Take(api.Hash{}, []byte("two")), api.ErrHash)
	refused(t, "Take of nothing by nought", s.Take(api.Hash{}, nil), api.ErrHash)
	refused(t, "Take of one as two", s.Take(sha.Sum([]byte("two")), []byte("one")), api.ErrHash)
	for i := range one {
		for _, bit := range []byte{1, 0x80} {
			other := one
			other[i] ^= bit
			refused(t, "Take by a sum that differs at "+strconv.Itoa(i), s.Take(other, []byte("one")), api.ErrHash)
			getRefused(t, s, other, api.ErrNone)
			if s.Has(other) {
				t.Errorf("Has: true of a sum that differs at %d", i)
			}
		}
	}
	holds(t, s, "one")
}

func TestTakeOfManyBytes(t *testing.T) {
	s := newStore(t, 1)
	long := make([]byte, api.MaxBlob+1)
	refused(t, "Take of too many", s.Take(sha.Sum(long), long), api.ErrLong)
	refused(t, "Take of too many by another sum", s.Take(api.Hash{1}, long), api.ErrLong)
	holds(t, s)
	most := long[:api.MaxBlob]
	h := sha.Sum(most)
	if err := s.Take(h, most); err != nil {
		t.Errorf("Take of MaxBlob bytes: %v", err)
	}
	got(t, s, h, most)
	refused(t, "Take of too many without room", s.Take(sha.Sum(long), long), api.ErrLong)
}

func TestTakeWithoutRoom(t *testing.T) {
	s := newStore(t, 2)
	put(t, s, []byte("one"))
	put(t, s, []byte("two"))
	refused(t, "Take without room", s.Take(sha.Sum([]byte("three")), []byte("three")), api.ErrFull)
	refused(t, "Take by another sum, without room", s.Take(sha.Sum([]byte("one")), []byte("three")), api.ErrHash)
	if err := s.Take(sha.Sum([]byte("two")), []byte("two")); err != nil {
		t.Errorf("Take of what is there, without room: %v", err)
	}
	holds(t, s, "one", "two")
}

func TestListRisesWhateverTheOrder(t *testing.T) {
	texts := []string{"", "a", "b", "c", "ab", "abc", "\x00", "\xff", "usufruct", "a crate"}
	r := rand.New(rand.NewSource(4))
	for range 50 {
		r.Shuffle(len(texts), func(i, k int) { texts[i], texts[k] = texts[k], texts[i] })
		s := newStore(t, len(texts))
		for i, text := range texts {
			put(t, s, []byte(text))
			holds(t, s, texts[:i+1]...)
		}
	}
}

func TestStoresAreApart(t *testing.T) {
	a, b := newStore(t, 1), newStore(t, 1)
	put(t, a, []byte("one"))
	holds(t, b)
	put(t, b, []byte("two"))
	holds(t, a, "one")
	holds(t, b, "two")
}

func TestStoreThatNewDidNotMake(t *testing.T) {
	for _, s := range []*cas.Store{nil, {}} {
		putRefused(t, s, []byte("one"), api.ErrFull)
		putRefused(t, s, make([]byte, api.MaxBlob+1), api.ErrLong)
		refused(t, "Take", s.Take(sha.Sum([]byte("one")), []byte("one")), api.ErrFull)
		refused(t, "Take", s.Take(api.Hash{}, []byte("one")), api.ErrHash)
		getRefused(t, s, sha.Sum([]byte("one")), api.ErrNone)
		if s.Has(sha.Sum(nil)) {
			t.Error("Has: true")
		}
		holds(t, s)
	}
}

// 4.2

func noClash(t *testing.T, l [][]byte) {
	t.Helper()
	if i, k, is := cas.Clash(l); is || i != 0 || k != 0 {
		t.Errorf("Clash of %d members: %d, %d, %t", len(l), i, k, is)
	}
}

func TestClashOfNone(t *testing.T) {
	noClash(t, nil)
	noClash(t, [][]byte{})
	noClash(t, [][]byte{nil})
	noClash(t, [][]byte{[]byte("one")})
	noClash(t, [][]byte{nil, {}, nil, {}})
	noClash(t, [][]byte{[]byte("one"), []byte("one"), []byte("one")})
	noClash(t, [][]byte{[]byte("one"), []byte("two")})
	noClash(t, [][]byte{{1}, {2}, {1}, nil, {}, {0}, {0, 0}, {1, 2}, {2}})
	noClash(t, [][]byte{make([]byte, api.MaxBlob+1), make([]byte, api.MaxBlob), nil, make([]byte, api.MaxBlob+1)})
}

func TestClashOfManyEnds(t *testing.T) {
	many := make([][]byte, 1<<18)
	noClash(t, many)
	for i := range many {
		many[i] = numbered(i / 2)
	}
	noClash(t, many)
}

func TestClashChangesNothing(t *testing.T) {
	l := [][]byte{[]byte("b"), nil, []byte("a"), []byte("b")}
	noClash(t, l)
	if len(l) != 4 || string(l[0]) != "b" || l[1] != nil || string(l[2]) != "a" || string(l[3]) != "b" {
		t.Errorf("Clash changed what it was given: %q", l)
	}
}

// 4.3

func TestWhatWasPutIsGotWhateverBecomesOfIt(t *testing.T) {
	s := newStore(t, 2)
	given := []byte("one, with room behind it")
	h := put(t, s, given[:3])
	given[0] = 'x'
	got(t, s, h, []byte("one"))
	taken := []byte("two")
	sum := sha.Sum(taken)
	if s.Take(sum, taken) != nil {
		t.Error("Take")
	}
	taken[2] = 'x'
	got(t, s, sum, []byte("two"))
	if string(given) != "xne, with room behind it" || string(taken) != "twx" {
		t.Error("what was handed in was written to")
	}
}

func TestWhatIsAnsweredIsTheCallersOwn(t *testing.T) {
	s := newStore(t, 2)
	h := put(t, s, []byte("one"))
	put(t, s, []byte("two"))
	first, _ := s.Get(h)
	second, _ := s.Get(h)
	first[0] = 'x'
	_ = append(first[:1], "yyyyyyyy"...)
	if string(second) != "one" {
		t.Error("two answers of Get share memory")
	}
	got(t, s, h, []byte("one"))
	list := s.List()
	list[0], list[1] = api.Hash{}, api.Hash{}
	holds(t, s, "one", "two")
}

// The same bytes put again stay what they were, whatever became of the bytes that were put later.
func TestWhatIsThereStays(t *testing.T) {
	s := newStore(t, 1)
	h := put(t, s, []byte("one"))
	again := []byte("one")
	put(t, s, again)
	again[0] = 'x'
	got(t, s, h, []byte("one"))
	again[0] = 'o'
	if s.Take(h, again) != nil {
		t.Error("Take of what is there")
	}
	again[0] = 'x'
	got(t, s, h, []byte("one"))
}

// tryAll goes through calls that the bytes say, and holds each answer against what a list of texts says.
func tryAll(t *testing.T, room int, calls []byte) {
	s := newStore(t, room)
	var there []string
	for _, call := range calls {
		text := string(bytes.Repeat([]byte{call >> 4}, int(call>>4)*9%64))
		h := sha.Sum([]byte(text))
		want := api.OK
		if !slices.Contains(there, text) && len(there) == room {
			want = api.ErrFull
		}
		var err error
		switch call & 3 {
		case 0:
			_, err = s.Put([]byte(text))
		case 1:
			err = s.Take(h, []byte(text))
		case 2:
			err, want = s.Take(sha.Sum([]byte(text+"x")), []byte(text)), api.ErrHash
		case 3:
			_, err = s.Get(h)
			if want = api.OK; !slices.Contains(there, text) {
				want = api.ErrNone
			}
		}
		if fault.Code(err) != want {
			t.Fatalf("the call %d of %q with %d of %d there: %v, not %v", call&3, text, len(there), room, err, want)
		}
		if call&3 < 2 && want == api.OK && !slices.Contains(there, text) {
			there = append(there, text)
		}
		holds(t, s, there...)
	}
}

func TestCallsOfChance(t *testing.T) {
	r := rand.New(rand.NewSource(43))
	for range 200 {
		calls := make([]byte, r.Intn(40))
		r.Read(calls)
		tryAll(t, 1+r.Intn(12), calls)
	}
}

func FuzzStore(f *testing.F) {
	f.Add(1, []byte{0x10, 0x20, 0x11, 0x23, 0x12})
	f.Add(api.MaxBlobs, []byte("usufruct"))
	f.Fuzz(func(t *testing.T, room int, calls []byte) {
		if room < 1 || room > api.MaxBlobs || len(calls) > 200 {
			return
		}
		tryAll(t, room, calls)
	})
}
