package sha_test

import (
	"bytes"
	"crypto/sha256"
	"encoding/hex"
	"math/rand"
	"slices"
	"strconv"
	"strings"
	"testing"

	"usufruct/api"
	"usufruct/fault"
	"usufruct/sha"
)

// counted is n bytes, no two neighbours of which are alike.
func counted(n int) []byte {
	b := make([]byte, n)
	for i := range b {
		b[i] = byte(7*i + 3)
	}
	return b
}

func sumIs(t *testing.T, name string, b []byte, want string) {
	t.Helper()
	if got := sha.Sum(b); hex.EncodeToString(got[:]) != want {
		t.Errorf("Sum of %s: %x, not %s", name, got, want)
	}
}

func sumAgrees(t *testing.T, name string, b []byte) {
	t.Helper()
	if got, want := sha.Sum(b), sha256.Sum256(b); got != want {
		t.Errorf("Sum of %s: %x, not %x", name, got, want)
	}
}

// 3.1

func TestSumOfKnownTexts(t *testing.T) {
	sumIs(t, "nothing", nil, "e3b0c44298fc1c149afbf4c8996fb92427ae41e4649b934ca495991b7852b855")
	sumIs(t, "an empty list", []byte{}, "e3b0c44298fc1c149afbf4c8996fb92427ae41e4649b934ca495991b7852b855")
	sumIs(t, "a", []byte("a"), "ca978112ca1bbdcafac231b39a23dc4da786eff8147c4e72b9807785afee48bb")
	sumIs(t, "abc", []byte("abc"), "ba7816bf8f01cfea414140de5dae2223b00361a396177a9cb410ff61f20015ad")
	sumIs(t, "56 bytes", []byte("abcdbcdecdefdefgefghfghighijhijkijkljklmklmnlmnomnopnopq"),
		"248d6a61d20638b8e5c026930c3e6039a33ce45964ff2167f6ecedd419db06c1")
	sumIs(t, "112 bytes", []byte("abcdefghbcdefghicdefghijdefghijkefghijklfghijklmghijklmnhijklmnoijklmnopjklmnopqklmnopqrlmnopqrsmnopqrstnopqrstu"),
		"cf5b16a778af8380036ce59e7b0492370b249b11e8f07a51afac45037afee9d1")
	sumIs(t, "a million a", bytes.Repeat([]byte("a"), 1000000),
		"cdc76e5c9914fb9281a1c7e284d73e67f1809a48a497200e046d39ccc7112cd0")
}

func TestSumAboutTheEndsOfBlocks(t *testing.T) {
	for n := range 5 * 64 {
		many := strconv.Itoa(n)
		sumAgrees(t, many+" bytes", counted(n))
		sumAgrees(t, many+" noughts", make([]byte, n))
		sumAgrees(t, many+" of the highest byte", bytes.Repeat([]byte{0xFF}, n))
	}
}

func TestSumOfManyBlocks(t *testing.T) {
	for _, n := range []int{1<<13 - 1, 1 << 13, 1<<13 + 1, 1<<16 + 55, 1<<16 + 56, 1<<20 - 1, 1 << 20, 1<<22 + 63} {
		sumAgrees(t, strconv.Itoa(n)+" bytes", counted(n))
	}
}

// As many bits as are no more told by 32 bits.
func TestSumOfMoreBitsThanAWordTells(t *testing.T) {
	if testing.Short() {
		t.Skip("it goes through 2^29 bytes")
	}
	sumAgrees(t, "2^29 + 5 bytes", make([]byte, 1<<29+5))
}

func TestSumOfChance(t *testing.T) {
	r := rand.New(rand.NewSource(3))
	for range 2000 {
		b := make([]byte, r.Intn(400))
		r.Read(b)
		sumAgrees(t, hex.EncodeToString(b), b)
	}
}

// 3.2

func TestHex(t *testing.T) {
	var all api.Hash
	for i := range all {
		all[i] = byte(i)*8 + 1
	}
	for name, c := range map[string]struct {
		h    api.Hash
		want string
	}{
		"nought":         {api.Hash{}, strings.Repeat("0", 64)},
		"the highest":    {api.Hash(bytes.Repeat([]byte{0xFF}, 32)), strings.Repeat("f", 64)},
		"the first byte": {api.Hash{0: 0x1a}, "1a" + strings.Repeat("0", 62)},
		"the last byte":  {api.Hash{31: 0xb2}, strings.Repeat("0", 62) + "b2"},
		"every byte":     {all, "0109111921293139414951596169717981899199a1a9b1b9c1c9d1d9e1e9f1f9"},
	} {
		if got := sha.Hex(c.h); got != c.want {
			t.Errorf("Hex of %s: %s, not %s", name, got, c.want)
		}
	}
}

func parsed(t *testing.T, s string, want api.Hash) {
	t.Helper()
	if h, err := sha.Parse(s); err != nil || h != want {
		t.Errorf("Parse of %q: %x, %v", s, h, err)
	}
}

func refused(t *testing.T, s string, at int) {
	t.Helper()
	h, err := sha.Parse(s)
	if fault.Code(err) != api.ErrForm || !slices.Equal(fault.Path(err), []int{at}) {
		t.Errorf("Parse of %q: error %d at %v, not ErrForm at %d", s, fault.Code(err), fault.Path(err), at)
	}
	if h != (api.Hash{}) {
		t.Errorf("Parse of %q: %x beside an error", s, h)
	}
}

const right = "0123456789abcdeffedcba987654321000112233445566778899aabbccddeeff"

func TestParse(t *testing.T) {
	parsed(t, right, api.Hash{
		0x01, 0x23, 0x45, 0x67, 0x89, 0xab, 0xcd, 0xef, 0xfe, 0xdc, 0xba, 0x98, 0x76, 0x54, 0x32, 0x10,
		0x00, 0x11, 0x22, 0x33, 0x44, 0x55, 0x66, 0x77, 0x88, 0x99, 0xaa, 0xbb, 0xcc, 0xdd, 0xee, 0xff,
	})
	parsed(t, strings.Repeat("0", 64), api.Hash{})
	parsed(t, strings.Repeat("f", 64), api.Hash(bytes.Repeat([]byte{0xFF}, 32)))
}

func TestParseOfOtherLengths(t *testing.T) {
	for n := range 64 {
		refused(t, right[:n], n)
	}
	refused(t, right+"0", 64)
	refused(t, right+"x", 64)
	refused(t, right+right, 64)
	refused(t, right+"\n", 64)
	refused(t, right+strings.Repeat("0", 1000)+"x", 64)
}

func TestParseOfOtherBytes(t *testing.T) {
	for at := range 64 {
		for c := range 256 {
			s := right[:at] + string([]byte{byte(c)}) + right[at+1:]
			if strings.IndexByte("0123456789abcdef", byte(c)) < 0 {
				refused(t, s, at)
			} else if _, err := sha.Parse(s); err != nil {
				t.Errorf("Parse of %q: %v", s, err)
			}
		}
	}
}

func TestParseTellsTheFirstPlace(t *testing.T) {
	refused(t, strings.ToUpper(right), 10)
	refused(t, right[:20]+"A"+right[21:40]+"g"+right[41:], 20)
	refused(t, "G"+right[1:63], 0)
	refused(t, right[:5]+"-", 5)
	refused(t, right[:62]+" ", 62)
	refused(t, right[:63]+"F"+"00", 63)
	refused(t, right[:7]+"/"+right+right, 7)
	refused(t, "é"+right[2:], 0)
	refused(t, "0x"+right[:62], 1)
}

func TestLess(t *testing.T) {
	high := api.Hash(bytes.Repeat([]byte{0xFF}, 32))
	for name, c := range map[string]struct {
		a, b        api.Hash
		below, over bool
	}{
		"alike":                    {api.Hash{1, 2, 3}, api.Hash{1, 2, 3}, false, false},
		"both nought":              {api.Hash{}, api.Hash{}, false, false},
		"both the highest":         {high, high, false, false},
		"the first byte":           {api.Hash{1}, api.Hash{2}, true, false},
		"the last byte":            {api.Hash{31: 1}, api.Hash{31: 2}, true, false},
		"the first ahead of rest":  {api.Hash{0, 255, 255}, api.Hash{1, 0, 0}, true, false},
		"the first ahead of last":  {api.Hash{0: 4, 31: 255}, api.Hash{0: 5, 31: 0}, true, false},
		"a byte above 127":         {api.Hash{127}, api.Hash{128}, true, false},
		"nought below the highest": {api.Hash{}, high, true, false},
	} {
		if sha.Less(c.a, c.b) != c.below || sha.Less(c.b, c.a) != c.over {
			t.Errorf("Less: %s", name)
		}
	}
}

func TestLessAtEveryByte(t *testing.T) {
	base := sha.Sum([]byte("base"))
	for i := range base {
		base[i] = base[i]&0x7F | 1
	}
	for i := range base {
		up := base
		up[i]++
		for j := i + 1; j < len(up); j++ {
			up[j] = 0
		}
		if !sha.Less(base, up) || sha.Less(up, base) {
			t.Errorf("Less by the byte %d", i)
		}
	}
}

// 3.3

func TestParseOfHexIsTheHash(t *testing.T) {
	r := rand.New(rand.NewSource(33))
	for range 2000 {
		var h api.Hash
		r.Read(h[:])
		s := sha.Hex(h)
		if len(s) != 64 || s != hex.EncodeToString(h[:]) {
			t.Errorf("Hex of %x: %s", h, s)
		}
		parsed(t, s, h)
	}
}

func TestSumHangsOnTheBytesAlone(t *testing.T) {
	wide := counted(1000)
	for _, n := range []int{0, 1, 55, 56, 63, 64, 65, 119, 120, 128, 500} {
		// Bytes with room behind them, at an odd place: neither is seen, and neither is written.
		part := wide[3 : 3+n]
		want := sha.Sum(bytes.Clone(part))
		if sha.Sum(part) != want || sha.Sum(part) != want {
			t.Errorf("Sum of %d bytes hangs on where they stand", n)
		}
		if !bytes.Equal(wide, counted(1000)) {
			t.Fatalf("Sum of %d bytes wrote into what it was given", n)
		}
	}
}

func TestSumsOfUnlikeBytesDiffer(t *testing.T) {
	seen := map[api.Hash]int{}
	for n := range 300 {
		seen[sha.Sum(make([]byte, n))] = n
	}
	if len(seen) != 300 {
		t.Errorf("300 unlike texts have %d sums", len(seen))
	}
}

func FuzzParse(f *testing.F) {
	for _, s := range []string{"", right, right[:63], right + "0", strings.ToUpper(right)} {
		f.Add(s)
	}
	f.Fuzz(func(t *testing.T, s string) {
		h, err := sha.Parse(s)
		if err == nil && sha.Hex(h) != s {
			t.Errorf("Hex of Parse of %q: %s", s, sha.Hex(h))
		}
		if err != nil && (h != (api.Hash{}) || fault.Code(err) != api.ErrForm || fault.At(err) > len(s)) {
			t.Errorf("Parse of %q: %x, error %d at %d", s, h, fault.Code(err), fault.At(err))
		}
	})
}

func FuzzSum(f *testing.F) {
	f.Add([]byte("abc"))
	f.Add(counted(56))
	f.Fuzz(func(t *testing.T, b []byte) { sumAgrees(t, hex.EncodeToString(b), b) })
}
