package cas

import (
	"bytes"
	"math/rand"
	"slices"
	"testing"

	"usufruct/api"
	"usufruct/fault"
)

// What is tried here can't be brought about from outside: bytes that were spoilt (4.1), and unlike bytes with one sum (4.2).

// 4.1

func TestGetOfSpoiltBytes(t *testing.T) {
	for name, spoil := range map[string]func(b []byte) []byte{
		"the first byte": func(b []byte) []byte { b[0] ^= 1; return b },
		"the last byte":  func(b []byte) []byte { b[len(b)-1] ^= 0x80; return b },
		"cut":            func(b []byte) []byte { return b[:len(b)-1] },
		"lost":           func([]byte) []byte { return nil },
		"longer":         func(b []byte) []byte { return append(b, 0) },
	} {
		s, _ := New(2)
		h, _ := s.Put([]byte("one"))
		whole, _ := s.Put([]byte("two"))
		s.blobs[h] = spoil(s.blobs[h])
		b, err := s.Get(h)
		if fault.Code(err) != api.ErrHash || !slices.Equal(fault.Path(err), []int{0}) || len(b) != 0 {
			t.Errorf("Get of spoilt bytes (%s): %q, %v", name, b, err)
		}
		if b, err := s.Get(whole); err != nil || string(b) != "two" {
			t.Errorf("Get of bytes beside spoilt ones (%s): %q, %v", name, b, err)
		}
		if s.Count() != 2 || !s.Has(h) {
			t.Errorf("Get of spoilt bytes (%s) changed the store", name)
		}
	}
}

// 4.2

// members makes a list of a text: each letter is a member; its sum is s's of the same place.
func members(text, s string) ([][]byte, []api.Hash) {
	var l [][]byte
	var sums []api.Hash
	for i := range len(text) {
		l = append(l, []byte(text[i:i+1]))
		sums = append(sums, api.Hash{s[i]})
	}
	return l, sums
}

func TestClashOfUnlikeWithOneSum(t *testing.T) {
	for name, c := range map[string]struct {
		text, sums string
		i, k       int
		is         bool
	}{
		"none":                         {"", "", 0, 0, false},
		"one":                          {"a", "1", 0, 0, false},
		"all alike":                    {"aaa", "111", 0, 0, false},
		"two":                          {"ab", "11", 0, 1, true},
		"two with other sums":          {"ab", "12", 0, 0, false},
		"the last two":                 {"abcd", "1233", 2, 3, true},
		"the first and the last":       {"abcd", "1231", 0, 3, true},
		"the first member alike":       {"aab", "111", 0, 2, true},
		"the least k":                  {"abcb", "1111", 0, 1, true},
		"the least k behind the alike": {"aaabc", "11111", 0, 3, true},
		"the least i, with a later k":  {"abcd", "1221", 0, 3, true},
		"the least i, beside another":  {"abcd", "1122", 0, 1, true},
		"the least i of three":         {"abcdef", "123321", 0, 5, true},
		"the least i, then k":          {"abcdef", "122111", 0, 3, true},
		"the least i comes to itself":  {"xabcdy", "012212", 1, 4, true},
	} {
		l, sums := members(c.text, c.sums)
		if i, k, is := clashBySums(l, sums); i != c.i || k != c.k || is != c.is {
			t.Errorf("%s: %d, %d, %t, not %d, %d, %t", name, i, k, is, c.i, c.k, c.is)
		}
	}
}

func TestClashBesideNoBytes(t *testing.T) {
	one := make([]api.Hash, 4)
	if i, k, is := clashBySums([][]byte{nil, {}, nil, {}}, one); i != 0 || k != 0 || is {
		t.Errorf("nil and empty are told as unlike: %d, %d, %t", i, k, is)
	}
	if i, k, is := clashBySums([][]byte{nil, {}, {0}, {1}}, one); i != 0 || k != 2 || !is {
		t.Errorf("nil and a nought: %d, %d, %t", i, k, is)
	}
}

// bySearch holds all pairs against each other, in the document's order.
func bySearch(l [][]byte, sums []api.Hash) (int, int, bool) {
	for i := range l {
		for k := i + 1; k < len(l); k++ {
			if sums[i] == sums[k] && !bytes.Equal(l[i], l[k]) {
				return i, k, true
			}
		}
	}
	return 0, 0, false
}

func TestClashIsThatOfASearch(t *testing.T) {
	r := rand.New(rand.NewSource(42))
	found := 0
	for range 20000 {
		n, kinds := r.Intn(12), 1+r.Intn(12)
		l := make([][]byte, n)
		sums := make([]api.Hash, n)
		for i := range l {
			v := r.Intn(12)
			l[i] = bytes.Repeat([]byte{byte(v)}, v%3)
			sums[i] = api.Hash{31: byte(v % kinds)}
		}
		wantI, wantK, want := bySearch(l, sums)
		if i, k, is := clashBySums(l, sums); i != wantI || k != wantK || is != want {
			t.Fatalf("%v with %v: %d, %d, %t, not %d, %d, %t", l, sums, i, k, is, wantI, wantK, want)
		}
		if want {
			found++
		}
	}
	if found < 1000 {
		t.Errorf("only %d lists clash", found)
	}
}
