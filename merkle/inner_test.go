package merkle

import (
	"bytes"
	"crypto/sha256"
	"encoding/binary"
	"math/rand"
	"slices"
	"testing"

	"usufruct/api"
)

// Unlike texts with one sum can't be had from outside (5.3, 5.4): here the sums are weak ones, of a few values.

// weak are sums of so many values.
func weak(values byte) summer {
	return func(b []byte) api.Hash { return api.Hash{31: 1 + sha256.Sum256(b)[0]%values} }
}

// treeTexts are the texts on the way to a leaf, from the tree's top down, as the leaves make them.
func treeTexts(sum summer, leaves [][]byte, i int) [][]byte {
	if len(leaves) == 1 {
		return [][]byte{append([]byte{0}, leaves[0]...)}
	}
	k := 1
	for 2*k < len(leaves) {
		k *= 2
	}
	left := sum(treeTexts(sum, leaves[:k], 0)[0])
	right := sum(treeTexts(sum, leaves[k:], 0)[0])
	text := slices.Concat([]byte{1}, left[:], right[:])
	if i < k {
		return append([][]byte{text}, treeTexts(sum, leaves[:k], i)...)
	}
	return append([][]byte{text}, treeTexts(sum, leaves[k:], i-k)...)
}

// pathTexts are the texts on the way to a leaf, from the tree's top down, as a proof makes them; none, if the path is of another length.
func pathTexts(sum summer, b []byte, i, count int, path []api.Hash) [][]byte {
	if count == 1 && len(path) == 0 {
		return [][]byte{append([]byte{0}, b...)}
	}
	if count == 1 || len(path) == 0 {
		return nil
	}
	k := 1
	for 2*k < count {
		k *= 2
	}
	other, below := path[len(path)-1], [][]byte{}
	if i < k {
		below = pathTexts(sum, b, i, k, path[:len(path)-1])
	} else {
		below = pathTexts(sum, b, i-k, count-k, path[:len(path)-1])
	}
	if below == nil {
		return nil
	}
	left, right := sum(below[0]), other
	if i >= k {
		left, right = right, left
	}
	return append([][]byte{slices.Concat([]byte{1}, left[:], right[:])}, below...)
}

// withRoot lays the text of the root above those of the tree.
func withRoot(sum summer, count int, texts [][]byte) [][]byte {
	tree := sum(texts[0])
	root := binary.BigEndian.AppendUint64([]byte{2}, uint64(count))
	return append([][]byte{append(root, tree[:]...)}, texts...)
}

// wanted is what the document says of Extract; and at which text, from the root on, the two are found.
func wanted(sum summer, leaves [][]byte, b []byte, p api.Proof) (first, second []byte, depth int, is bool) {
	if p.Index < 0 || p.Index >= p.Count || p.Index >= len(leaves) {
		return nil, nil, 0, false
	}
	shown := pathTexts(sum, b, p.Index, p.Count, p.Path)
	if shown == nil {
		return nil, nil, 0, false
	}
	shown = withRoot(sum, p.Count, shown)
	made := withRoot(sum, len(leaves), treeTexts(sum, leaves, p.Index))
	if sum(shown[0]) != sum(made[0]) || p.Count == len(leaves) && bytes.Equal(b, leaves[p.Index]) {
		return nil, nil, 0, false
	}
	for d := range min(len(shown), len(made)) {
		if !bytes.Equal(shown[d], made[d]) {
			return shown[d], made[d], d, true
		}
	}
	panic("the document's two texts are not there")
}

// held asks Extract, and holds it against the document; it tells at which text the two are found, or -1.
func held(t *testing.T, sum summer, leaves [][]byte, b []byte, p api.Proof) int {
	t.Helper()
	wantFirst, wantSecond, depth, want := wanted(sum, leaves, b, p)
	first, second, is := extractBy(sum, leaves, b, p)
	if is != want || !bytes.Equal(first, wantFirst) || !bytes.Equal(second, wantSecond) {
		t.Fatalf("leaves %q, bytes %q, %+v: %x, %x, %t, not %x, %x, %t", leaves, b, p, first, second, is, wantFirst, wantSecond, want)
	}
	if !is {
		return -1
	}
	if bytes.Equal(first, second) || sum(first) != sum(second) {
		t.Fatalf("leaves %q, bytes %q, %+v: %x, %x are not two unlike texts with one sum", leaves, b, p, first, second)
	}
	return depth
}

// eachPath tells all paths of so many sums, of so many values each.
func eachPath(length int, values byte, tell func(path []api.Hash)) {
	if length == 0 {
		tell(nil)
		return
	}
	for v := range values {
		eachPath(length-1, values, func(path []api.Hash) { tell(append(slices.Clone(path), api.Hash{31: 1 + v})) })
	}
}

// 5.3, 5.4: of all proofs over a few leaves, whichever is right shows two texts, but for the leaf's own.
func TestExtractOfAllProofs(t *testing.T) {
	sum := weak(3)
	found := map[int]int{}
	for n := range 6 {
		leaves := make([][]byte, n)
		for i := range leaves {
			leaves[i] = []byte{byte(i % 3)}
		}
		root := rootBy(sum, leaves)
		for count := range 8 {
			for index := -1; index <= count; index++ {
				for length := range 5 {
					eachPath(length, 3, func(path []api.Hash) {
						for v := range byte(4) {
							b, p := []byte{v}, api.Proof{Index: index, Count: count, Path: path}
							depth := held(t, sum, leaves, b, p)
							found[depth]++
							isOwn := index >= 0 && index < n && count == n && bytes.Equal(b, leaves[index])
							if checkBy(sum, root, b, p) && index < n && !isOwn && depth < 0 {
								t.Fatalf("leaves %q, bytes %q, %+v: it is right, and nothing is shown", leaves, b, p)
							}
						}
					})
				}
			}
		}
	}
	for depth := -1; depth < 5; depth++ {
		if found[depth] < 5 {
			t.Errorf("only %d found at the text %d: %v", found[depth], depth, found)
		}
	}
}

func TestExtractOfProofsByChance(t *testing.T) {
	r := rand.New(rand.NewSource(53))
	found := map[int]int{}
	for range 10000 {
		values := byte(1 + r.Intn(4))
		sum := weak(values)
		leaves := make([][]byte, 1+r.Intn(40))
		for i := range leaves {
			leaves[i] = bytes.Repeat([]byte{byte(r.Intn(3))}, r.Intn(4))
		}
		p, _ := proveBy(sum, leaves, r.Intn(len(leaves)))
		b := leaves[p.Index]
		if r.Intn(2) == 0 {
			b = []byte{byte(r.Intn(9))}
		}
		for k := range p.Path {
			if r.Intn(3) == 0 {
				p.Path[k] = api.Hash{31: 1 + byte(r.Intn(int(values)))}
			}
		}
		if r.Intn(8) == 0 {
			p.Count += r.Intn(9) - 4
		}
		found[held(t, sum, leaves, b, p)]++
	}
	for depth := -1; depth < 8; depth++ {
		if found[depth] < 20 {
			t.Errorf("only %d found at the text %d: %v", found[depth], depth, found)
		}
	}
}

// one is the weakest sum: all texts have it, so that just the form of a proof is asked.
func one(b []byte) api.Hash { return api.Hash{1} }

func leavesOf(texts ...string) [][]byte {
	var leaves [][]byte
	for _, text := range texts {
		leaves = append(leaves, []byte(text))
	}
	return leaves
}

// Each text that may be the first unlike one, from the root down.
func TestExtractTellsTheFirstFromTheRootDown(t *testing.T) {
	h1, h2 := api.Hash{1}, api.Hash{2}
	leaves := leavesOf("a", "b", "c")
	node := func(left, right api.Hash) string { return "\x01" + string(left[:]) + string(right[:]) }
	root := func(count byte) string {
		return "\x02\x00\x00\x00\x00\x00\x00\x00" + string([]byte{count}) + string(h1[:])
	}
	for name, c := range map[string]struct {
		b             string
		p             api.Proof
		first, second string
		is            bool
	}{
		"the leaf":                    {"x", api.Proof{Index: 0, Count: 3, Path: []api.Hash{h1, h1}}, "\x00x", "\x00a", true},
		"the last leaf":               {"x", api.Proof{Index: 2, Count: 3, Path: []api.Hash{h1}}, "\x00x", "\x00c", true},
		"an empty text":               {"", api.Proof{Index: 1, Count: 3, Path: []api.Hash{h1, h1}}, "\x00", "\x00b", true},
		"another leaf's text":         {"b", api.Proof{Index: 0, Count: 3, Path: []api.Hash{h1, h1}}, "\x00b", "\x00a", true},
		"the node above":              {"x", api.Proof{Index: 0, Count: 3, Path: []api.Hash{h2, h1}}, node(h1, h2), node(h1, h1), true},
		"the node above, on the left": {"x", api.Proof{Index: 1, Count: 3, Path: []api.Hash{h2, h1}}, node(h2, h1), node(h1, h1), true},
		"the tree's top":              {"x", api.Proof{Index: 0, Count: 3, Path: []api.Hash{h1, h2}}, node(h1, h2), node(h1, h1), true},
		"the tree's top of two":       {"x", api.Proof{Index: 1, Count: 3, Path: []api.Hash{{3}, h2}}, node(h1, h2), node(h1, h1), true},
		"the tree's top, on the left": {"x", api.Proof{Index: 2, Count: 3, Path: []api.Hash{h2}}, node(h2, h1), node(h1, h1), true},
		"another Count":               {"x", api.Proof{Index: 0, Count: 4, Path: []api.Hash{h2, h2}}, root(4), root(3), true},
		"the leaf, another Count":     {"a", api.Proof{Index: 0, Count: 4, Path: []api.Hash{h1, h1}}, root(4), root(3), true},
		"a longer way":                {"a", api.Proof{Index: 0, Count: 9, Path: []api.Hash{h1, h1, h1, h1}}, root(9), root(3), true},
		"a shorter way":               {"a", api.Proof{Index: 0, Count: 1}, root(1), root(3), true},
		"the leaf itself":             {"a", api.Proof{Index: 0, Count: 3, Path: []api.Hash{h1, h1}}, "", "", false},
		"the leaf, by another path":   {"a", api.Proof{Index: 0, Count: 3, Path: []api.Hash{h2, h2}}, "", "", false},
		"the leaf, by another top":    {"c", api.Proof{Index: 2, Count: 3, Path: []api.Hash{h2}}, "", "", false},
		"no place of a leaf":          {"x", api.Proof{Index: 3, Count: 4, Path: []api.Hash{h1, h1}}, "", "", false},
		"no place of the Count":       {"x", api.Proof{Index: 2, Count: 2, Path: []api.Hash{h1}}, "", "", false},
		"below all places":            {"x", api.Proof{Index: -1, Count: 3, Path: []api.Hash{h1, h1}}, "", "", false},
		"a sum too few":               {"x", api.Proof{Index: 0, Count: 3, Path: []api.Hash{h1}}, "", "", false},
		"a sum too many":              {"x", api.Proof{Index: 2, Count: 3, Path: []api.Hash{h1, h1}}, "", "", false},
	} {
		first, second, is := extractBy(one, leaves, []byte(c.b), c.p)
		if is != c.is || string(first) != c.first || string(second) != c.second {
			t.Errorf("%s: %q, %q, %t, not %q, %q, %t", name, first, second, is, c.first, c.second, c.is)
		}
		held(t, one, leaves, []byte(c.b), c.p)
	}
}

// The tree's own sum may be unlike under the root, with the Count alike.
func TestExtractOfUnlikeTreesUnderOneRoot(t *testing.T) {
	rootsAlone := func(b []byte) api.Hash {
		if b[0] == 2 {
			return api.Hash{2}
		}
		return sha256.Sum256(b)
	}
	leaves := leavesOf("a", "b", "c", "d", "e")
	for i := range leaves {
		p, _ := proveBy(rootsAlone, leaves, i)
		if depth := held(t, rootsAlone, leaves, []byte("x"), p); depth != 0 {
			t.Errorf("the place %d: found at the text %d", i, depth)
		}
		if depth := held(t, rootsAlone, leaves, leaves[i], p); depth != -1 {
			t.Errorf("the place %d: found at the text %d for the leaf itself", i, depth)
		}
	}
}

func TestExtractOfNilAndEmptyBytes(t *testing.T) {
	for _, leaf := range [][]byte{nil, {}} {
		for _, b := range [][]byte{nil, {}} {
			if _, _, is := extractBy(one, [][]byte{leaf}, b, api.Proof{Count: 1}); is {
				t.Error("nil and empty bytes are told as unlike")
			}
		}
	}
}

func TestWhatExtractTellsIsTheCallersOwn(t *testing.T) {
	leaves := leavesOf("a", "b")
	shown := []byte("x")
	p := api.Proof{Index: 1, Count: 2, Path: []api.Hash{{1}}}
	first, second, _ := extractBy(one, leaves, shown, p)
	for i := range first {
		first[i], second[i] = 0xee, 0xdd
	}
	_ = append(first[:0], "yyyy"...)
	_ = append(second[:0], "zzzz"...)
	if string(shown) != "x" || string(leaves[0]) != "a" || string(leaves[1]) != "b" || p.Path[0] != (api.Hash{1}) {
		t.Error("what Extract tells shares memory with what it was given")
	}
	held(t, one, leaves, shown, p)
}
