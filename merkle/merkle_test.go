package merkle_test

import (
	"bytes"
	"crypto/sha256"
	"encoding/binary"
	"encoding/hex"
	"math"
	"math/rand"
	"slices"
	"testing"

	"usufruct/api"
	"usufruct/fault"
	"usufruct/merkle"
)

// What follows makes the sums in another way than the package: leaf by leaf, by the tops of the whole trees so far.

func leafSum(b []byte) api.Hash { return sha256.Sum256(append([]byte{0}, b...)) }

func nodeSum(left, right api.Hash) api.Hash {
	return sha256.Sum256(slices.Concat([]byte{1}, left[:], right[:]))
}

func rootSum(count int, tree ...byte) api.Hash {
	return sha256.Sum256(append(binary.BigEndian.AppendUint64([]byte{2}, uint64(count)), tree...))
}

// treeSum joins two tops whenever they are of as many leaves, and at the end joins all that are left, from the last one on.
func treeSum(leaves [][]byte) api.Hash {
	type top struct {
		sum  api.Hash
		size int
	}
	var tops []top
	join := func() {
		n := len(tops)
		a, b := tops[n-2], tops[n-1]
		tops = append(tops[:n-2], top{nodeSum(a.sum, b.sum), a.size + b.size})
	}
	for _, b := range leaves {
		tops = append(tops, top{leafSum(b), 1})
		for len(tops) > 1 && tops[len(tops)-2].size == tops[len(tops)-1].size {
			join()
		}
	}
	for len(tops) > 1 {
		join()
	}
	return tops[0].sum
}

func wantRoot(leaves [][]byte) api.Hash {
	if len(leaves) == 0 {
		return rootSum(0)
	}
	tree := treeSum(leaves)
	return rootSum(len(leaves), tree[:]...)
}

// wantPath tells the sums from the root down, and turns them round.
func wantPath(leaves [][]byte, i int) []api.Hash {
	path := []api.Hash{}
	for len(leaves) > 1 {
		k := 1
		for 2*k < len(leaves) {
			k *= 2
		}
		if i < k {
			path = append(path, treeSum(leaves[k:]))
			leaves = leaves[:k]
		} else {
			path = append(path, treeSum(leaves[:k]))
			leaves, i = leaves[k:], i-k
		}
	}
	slices.Reverse(path)
	return path
}

// numbered leaves are all unlike.
func numbered(n int) [][]byte {
	var leaves [][]byte
	for i := range n {
		leaves = append(leaves, binary.BigEndian.AppendUint32([]byte("leaf "), uint32(i)))
	}
	return leaves
}

// sizes are those around each power of two, and those between the small ones.
func sizes() []int {
	return []int{1, 2, 3, 4, 5, 6, 7, 8, 9, 10, 11, 12, 13, 14, 15, 16, 17, 31, 32, 33, 63, 64, 65, 127, 128, 129}
}

func prove(t *testing.T, leaves [][]byte, i int) api.Proof {
	t.Helper()
	p, err := merkle.Prove(leaves, i)
	if err != nil {
		t.Fatalf("Prove of %d of %d: %v", i, len(leaves), err)
	}
	return p
}

func right(t *testing.T, what string, root api.Hash, b []byte, p api.Proof) {
	t.Helper()
	if !merkle.Check(root, b, p) {
		t.Errorf("%s: the proof of %d of %d with %d sums is wrong", what, p.Index, p.Count, len(p.Path))
	}
}

func wrong(t *testing.T, what string, root api.Hash, b []byte, p api.Proof) {
	t.Helper()
	if merkle.Check(root, b, p) {
		t.Errorf("%s: the proof of %d of %d with %d sums is right", what, p.Index, p.Count, len(p.Path))
	}
}

func nothing(t *testing.T, what string, leaves [][]byte, b []byte, p api.Proof) {
	t.Helper()
	if first, second, is := merkle.Extract(leaves, b, p); is || len(first) != 0 || len(second) != 0 {
		t.Errorf("%s: Extract tells %x, %x, %t", what, first, second, is)
	}
}

// 5.1

func TestLeaf(t *testing.T) {
	for _, b := range [][]byte{nil, {}, {0}, {1}, {2}, []byte("abc"), make([]byte, 54), make([]byte, 55), make([]byte, 63), make([]byte, 64), make([]byte, 1<<20)} {
		if merkle.Leaf(b) != leafSum(b) {
			t.Errorf("Leaf of %d bytes: %x", len(b), merkle.Leaf(b))
		}
	}
	if h := merkle.Leaf(nil); hex.EncodeToString(h[:]) != "6e340b9cffb37a989ca544e6bb780a2c78901d3fb33738768511a30617afa01d" {
		t.Errorf("Leaf of nothing: %x", h)
	}
}

// The trees are those of RFC 6962, whose sums of these leaves are known.
func TestRootOfKnownTrees(t *testing.T) {
	var leaves [][]byte
	for i, c := range []struct{ leaf, tree string }{
		{"", "6e340b9cffb37a989ca544e6bb780a2c78901d3fb33738768511a30617afa01d"},
		{"00", "fac54203e7cc696cf0dfcb42c92a1d9dbaf70ad9e621f4bd8d98662f00e3c125"},
		{"10", "aeb6bcfe274b70a14fb067a5e5578264db0fa9b51af5e0ba159158f329e06e77"},
		{"2021", "d37ee418976dd95753c1c73862b9398fa2a2cf9b4ff0fdfe8b30cd95209614b7"},
		{"3031", "4e3bbb1f7b478dcfe71fb631631519a3bca12c9aefca1612bfce4c13a86264d4"},
		{"40414243", "76e67dadbcdf1e10e1b74ddc608abd2f98dfb16fbce75277b5232a127f2087ef"},
		{"5051525354555657", "ddb89be403809e325750d3d263cd78929c2942b7942a34b77e122c9594a74c8c"},
		{"606162636465666768696a6b6c6d6e6f", "5dc9da79a70659a9ad559cb701ded9a2ab9d823aad2f4960cfe370eff4604328"},
	} {
		leaf, _ := hex.DecodeString(c.leaf)
		tree, _ := hex.DecodeString(c.tree)
		leaves = append(leaves, leaf)
		if merkle.Root(leaves) != rootSum(i+1, tree...) {
			t.Errorf("Root of the first %d: %x", i+1, merkle.Root(leaves))
		}
	}
}

func TestRootOfNone(t *testing.T) {
	want := api.Hash(sha256.Sum256([]byte{2, 0, 0, 0, 0, 0, 0, 0, 0}))
	if merkle.Root(nil) != want || merkle.Root([][]byte{}) != want {
		t.Errorf("Root of none: %x, %x, not %x", merkle.Root(nil), merkle.Root([][]byte{}), want)
	}
	if merkle.Root([][]byte{nil}) == want {
		t.Error("Root of an empty leaf is that of none")
	}
}

func TestRoot(t *testing.T) {
	for n := range 300 {
		if leaves := numbered(n); merkle.Root(leaves) != wantRoot(leaves) {
			t.Errorf("Root of %d: %x, not %x", n, merkle.Root(leaves), wantRoot(leaves))
		}
	}
	for _, n := range []int{1023, 1024, 1025, 65535, 65536, 65537} {
		if leaves := numbered(n); merkle.Root(leaves) != wantRoot(leaves) {
			t.Errorf("Root of %d: %x, not %x", n, merkle.Root(leaves), wantRoot(leaves))
		}
	}
}

func TestRootOfLeavesThatAreEmptyOrAlike(t *testing.T) {
	for n := range 70 {
		for _, b := range [][]byte{nil, {}, []byte("alike"), make([]byte, 64)} {
			leaves := slices.Repeat([][]byte{b}, n)
			if merkle.Root(leaves) != wantRoot(leaves) {
				t.Errorf("Root of %d leaves %q: %x", n, b, merkle.Root(leaves))
			}
		}
	}
	if merkle.Root([][]byte{nil, {1}}) != merkle.Root([][]byte{{}, {1}}) {
		t.Error("a nil leaf and an empty one make unlike roots")
	}
}

// Whatever tells lists of leaves apart tells their roots apart.
func TestRootOfUnlikeLists(t *testing.T) {
	a, b := leafSum([]byte("a")), leafSum([]byte("b"))
	lists := [][][]byte{
		nil, {nil}, {nil, nil}, {nil, nil, nil}, {nil, nil, nil, nil},
		{[]byte("a")}, {[]byte("b")}, {[]byte("ab")},
		{[]byte("a"), []byte("b")}, {[]byte("b"), []byte("a")}, {[]byte("ab"), nil}, {nil, []byte("ab")},
		{[]byte("a"), []byte("b"), nil}, {[]byte("a"), nil, []byte("b")}, {nil, []byte("a"), []byte("b")},
		{[]byte("a"), []byte("b"), []byte("b")}, {[]byte("a"), []byte("b"), []byte("b"), []byte("b")},
		{slices.Concat(a[:], b[:])}, {slices.Concat([]byte{1}, a[:], b[:])}, {a[:], b[:]},
		{{0}}, {{1}}, {{2}}, {{0}, {1}}, {{1}, {0}},
	}
	seen := map[api.Hash]int{}
	for i, leaves := range lists {
		root := merkle.Root(leaves)
		if k, there := seen[root]; there {
			t.Errorf("the lists %d and %d have one root", k, i)
		}
		seen[root] = i
	}
}

// 5.2: Prove

func TestProve(t *testing.T) {
	for _, n := range sizes() {
		leaves := numbered(n)
		for i := range n {
			p := prove(t, leaves, i)
			if p.Index != i || p.Count != n || !slices.Equal(p.Path, wantPath(leaves, i)) {
				t.Errorf("Prove of %d of %d: %d of %d with %x", i, n, p.Index, p.Count, p.Path)
			}
		}
	}
}

// The document's example: a tree of 3 is ((0 1) 2).
func TestProveOfAFew(t *testing.T) {
	leaves := numbered(4)
	l := []api.Hash{leafSum(leaves[0]), leafSum(leaves[1]), leafSum(leaves[2]), leafSum(leaves[3])}
	for _, c := range []struct {
		i, n int
		path []api.Hash
	}{
		{0, 1, nil},
		{0, 2, []api.Hash{l[1]}},
		{1, 2, []api.Hash{l[0]}},
		{0, 3, []api.Hash{l[1], l[2]}},
		{1, 3, []api.Hash{l[0], l[2]}},
		{2, 3, []api.Hash{nodeSum(l[0], l[1])}},
		{0, 4, []api.Hash{l[1], nodeSum(l[2], l[3])}},
		{3, 4, []api.Hash{l[2], nodeSum(l[0], l[1])}},
	} {
		if p := prove(t, leaves[:c.n], c.i); p.Index != c.i || p.Count != c.n || !slices.Equal(p.Path, c.path) {
			t.Errorf("Prove of %d of %d: %+v", c.i, c.n, p)
		}
	}
}

func TestProveOfNoPlace(t *testing.T) {
	for _, n := range append(sizes(), 0) {
		leaves := numbered(n)
		for _, i := range []int{-1, -2, -n - 1, n, n + 1, 2*n + 1, math.MinInt, math.MaxInt, 1 << 32, -1 << 32} {
			p, err := merkle.Prove(leaves, i)
			if fault.Code(err) != api.ErrRange || !fault.Is(err, api.ErrRange) || !slices.Equal(fault.Path(err), []int{0}) {
				t.Errorf("Prove of %d of %d: %v at %v", i, n, err, fault.Path(err))
			}
			if p.Index != 0 || p.Count != 0 || len(p.Path) != 0 {
				t.Errorf("Prove of %d of %d: %+v beside an error", i, n, p)
			}
		}
	}
	if _, err := merkle.Prove([][]byte{}, 0); fault.Code(err) != api.ErrRange {
		t.Errorf("Prove of 0 of none: %v", err)
	}
}

// 5.2: Check

func TestCheckOfAnotherPlaceOrCount(t *testing.T) {
	for _, n := range sizes()[:17] {
		leaves := numbered(n)
		root := merkle.Root(leaves)
		for i := range n {
			p := prove(t, leaves, i)
			for index := -2; index < n+3; index++ {
				for count := -2; count < 2*n+3; count++ {
					if index != i || count != n {
						wrong(t, "another place or Count", root, leaves[i], api.Proof{Index: index, Count: count, Path: p.Path})
					}
				}
			}
		}
	}
}

func TestCheckOfFarPlacesAndCounts(t *testing.T) {
	leaves := numbered(3)
	root := merkle.Root(leaves)
	p := prove(t, leaves, 2)
	far := []int{math.MinInt, math.MinInt + 1, -1 << 32, 1 << 31, 1 << 32, 1<<32 + 3, 1 << 62, math.MaxInt - 1, math.MaxInt}
	for _, v := range far {
		wrong(t, "a far place", root, leaves[2], api.Proof{Index: v, Count: 3, Path: p.Path})
		wrong(t, "a far Count", root, leaves[2], api.Proof{Index: 2, Count: v, Path: p.Path})
		for _, w := range far {
			for _, path := range [][]api.Hash{nil, p.Path, make([]api.Hash, 62), make([]api.Hash, 63), make([]api.Hash, 64)} {
				wrong(t, "a far place and Count", root, leaves[2], api.Proof{Index: v, Count: w, Path: path})
			}
		}
	}
}

func TestCheckOfNoLeaves(t *testing.T) {
	for _, root := range []api.Hash{{}, merkle.Root(nil)} {
		for _, p := range []api.Proof{{}, {Index: -1}, {Index: 1}, {Path: make([]api.Hash, 1)}, {Index: -1, Count: 1}, {Count: 1}, {Count: -1}, {Index: -2, Count: -1}} {
			wrong(t, "no leaves", root, nil, p)
			nothing(t, "no leaves", nil, nil, p)
		}
	}
}

func TestCheckOfAnotherPath(t *testing.T) {
	for _, n := range sizes()[:20] {
		leaves := numbered(n)
		root := merkle.Root(leaves)
		for i := range n {
			p := prove(t, leaves, i)
			with := func(what string, path []api.Hash) {
				wrong(t, what, root, leaves[i], api.Proof{Index: i, Count: n, Path: path})
			}
			for k := range p.Path {
				with("a sum too few", slices.Delete(slices.Clone(p.Path), k, k+1))
				for _, place := range []int{0, 13, 31} {
					path := slices.Clone(p.Path)
					path[k][place] ^= 0x10
					with("a sum turned", path)
				}
				if k > 0 {
					path := slices.Clone(p.Path)
					path[k-1], path[k] = path[k], path[k-1]
					with("two sums the other way round", path)
				}
			}
			for k := range len(p.Path) + 1 {
				with("a nought too many", slices.Insert(slices.Clone(p.Path), k, api.Hash{}))
				with("the leaf's sum too many", slices.Insert(slices.Clone(p.Path), k, leafSum(leaves[i])))
				with("the root too many", slices.Insert(slices.Clone(p.Path), k, root))
			}
			with("many too many", append(slices.Clone(p.Path), make([]api.Hash, 1000)...))
			if n > 1 {
				with("no sum", nil)
			}
		}
	}
}

func TestCheckOfAPathOfVeryManySums(t *testing.T) {
	leaves := numbered(2)
	p := prove(t, leaves, 0)
	p.Path = append(p.Path, make([]api.Hash, 1<<22)...)
	wrong(t, "very many sums", merkle.Root(leaves), leaves[0], p)
}

func TestCheckOfOtherBytes(t *testing.T) {
	for _, n := range sizes()[:17] {
		leaves := numbered(n)
		root := merkle.Root(leaves)
		for i := range n {
			p := prove(t, leaves, i)
			sum := leafSum(leaves[i])
			others := [][]byte{nil, {0}, leaves[i][1:], leaves[i][:len(leaves[i])-1], append(slices.Clone(leaves[i]), 0), append([]byte{0}, leaves[i]...), sum[:], leaves[(i+1)%n]}
			for k, b := range others {
				if !bytes.Equal(b, leaves[i]) {
					wrong(t, "other bytes", root, b, p)
					nothing(t, "other bytes", leaves, b, p)
				} else if n > 1 {
					t.Errorf("the bytes %d are no other ones", k)
				}
			}
			for k := range leaves[i] {
				b := slices.Clone(leaves[i])
				b[k] ^= 1
				wrong(t, "a byte turned", root, b, p)
			}
		}
	}
}

func TestCheckOfAnotherRoot(t *testing.T) {
	for _, n := range sizes()[:17] {
		leaves := numbered(n)
		root := merkle.Root(leaves)
		tree := treeSum(leaves)
		for i := range n {
			p := prove(t, leaves, i)
			for k := range root {
				other := root
				other[k] ^= 1
				wrong(t, "a root turned", other, leaves[i], p)
			}
			for _, other := range []api.Hash{{}, tree, leafSum(leaves[i]), merkle.Root(nil), merkle.Root(leaves[1:]), merkle.Root(numbered(n + 1)), rootSum(n+1, tree[:]...), rootSum(n), rootSum(0, tree[:]...)} {
				wrong(t, "another root", other, leaves[i], p)
			}
		}
	}
}

// A node's two sums, shown as a leaf's bytes, are no leaf of a smaller tree.
func TestCheckOfANodeAsALeaf(t *testing.T) {
	leaves := numbered(4)
	l, r := nodeSum(leafSum(leaves[0]), leafSum(leaves[1])), nodeSum(leafSum(leaves[2]), leafSum(leaves[3]))
	a, b := leafSum(leaves[0]), leafSum(leaves[1])
	for _, bytes := range [][]byte{slices.Concat(a[:], b[:]), slices.Concat([]byte{1}, a[:], b[:]), l[:]} {
		wrong(t, "a node as a leaf", merkle.Root(leaves), bytes, api.Proof{Index: 0, Count: 2, Path: []api.Hash{r}})
		wrong(t, "a node as a leaf", merkle.Root(leaves), bytes, api.Proof{Index: 0, Count: 4, Path: []api.Hash{r}})
	}
}

// A leaf that is alike another one has a proof of its own place alone, but of alike sides.
func TestCheckOfAlikeLeaves(t *testing.T) {
	leaves := [][]byte{nil, nil, nil}
	root := merkle.Root(leaves)
	for i := range leaves {
		right(t, "alike leaves", root, nil, prove(t, leaves, i))
		right(t, "an empty leaf for a nil one", root, []byte{}, prove(t, leaves, i))
		nothing(t, "an empty leaf for a nil one", leaves, []byte{}, prove(t, leaves, i))
	}
	p := prove(t, leaves, 0)
	p.Index = 1
	right(t, "another alike leaf of one node", root, nil, p)
	nothing(t, "another alike leaf of one node", leaves, nil, p)
	p.Index = 2
	wrong(t, "an alike leaf on another way", root, nil, p)
}

// farWay tells from the leaf up, for a leaf of a tree of so many, whether the other side is on the left: by the tree's own rule, from the root down.
func farWay(index, count uint64) []bool {
	var left []bool
	for count > 1 {
		k := uint64(1)
		for 2*k < count {
			k *= 2
		}
		if index < k {
			left, count = append(left, false), k
		} else {
			left, index, count = append(left, true), index-k, count-k
		}
	}
	slices.Reverse(left)
	return left
}

// No program has so many leaves; but the sum that is made of a proof is still one, and may be the root.
func TestCheckOfVeryManyLeaves(t *testing.T) {
	r := rand.New(rand.NewSource(52))
	counts := []int{1, 2, 3, 1 << 20, 1<<31 - 1, 1 << 31, 1<<32 + 1, 1<<62 - 1, 1 << 62, 1<<62 + 1, math.MaxInt - 1, math.MaxInt}
	for _, count := range counts {
		for _, index := range []int{0, 1, 2, count / 2, count/2 - 1, count - 2, count - 1, r.Intn(count)} {
			if index < 0 || index >= count {
				continue
			}
			b := []byte("a leaf of many")
			p := api.Proof{Index: index, Count: count}
			sum := leafSum(b)
			for _, left := range farWay(uint64(index), uint64(count)) {
				var other api.Hash
				r.Read(other[:])
				p.Path = append(p.Path, other)
				if left {
					sum = nodeSum(other, sum)
				} else {
					sum = nodeSum(sum, other)
				}
			}
			root := rootSum(count, sum[:]...)
			right(t, "very many leaves", root, b, p)
			wrong(t, "very many leaves, other bytes", root, nil, p)
			nothing(t, "very many leaves", numbered(3), b, p)
			p.Path = append(p.Path, api.Hash{})
			wrong(t, "very many leaves, a sum too many", root, b, p)
			if p.Path = p.Path[:max(0, len(p.Path)-2)]; count > 1 {
				wrong(t, "very many leaves, a sum too few", root, b, p)
			}
		}
	}
}

// 5.3: what can be had from outside; see inner_test.go for the rest.

func TestExtractOfProofsThatAreWrong(t *testing.T) {
	for _, n := range sizes()[:17] {
		leaves := numbered(n)
		for i := range n {
			p := prove(t, leaves, i)
			nothing(t, "the leaf itself", leaves, leaves[i], p)
			nothing(t, "other bytes", leaves, []byte("other"), p)
			nothing(t, "a sum too many", leaves, leaves[i], api.Proof{Index: i, Count: n, Path: append(slices.Clone(p.Path), api.Hash{})})
			for _, index := range []int{-1, n, n + 1, math.MinInt, math.MaxInt} {
				nothing(t, "no place", leaves, leaves[i], api.Proof{Index: index, Count: n, Path: p.Path})
				nothing(t, "no place", leaves, leaves[i], api.Proof{Index: index, Count: math.MaxInt, Path: p.Path})
			}
			for _, count := range []int{0, -1, n - 1, n + 1, math.MinInt, math.MaxInt} {
				nothing(t, "another Count", leaves, leaves[i], api.Proof{Index: i, Count: count, Path: p.Path})
				nothing(t, "another Count", leaves, []byte("other"), api.Proof{Index: i, Count: count, Path: p.Path})
			}
			nothing(t, "other leaves", numbered(n + 1)[1:], leaves[i], p)
			nothing(t, "more leaves", numbered(n+1), leaves[i], p)
			nothing(t, "no leaves", nil, leaves[i], p)
		}
	}
}

// 5.4

func TestEachLeafsProofIsRight(t *testing.T) {
	for _, n := range sizes() {
		leaves := numbered(n)
		root := wantRoot(leaves)
		for i := range n {
			right(t, "its own proof", root, leaves[i], prove(t, leaves, i))
		}
	}
	leaves := numbered(65537)
	root := wantRoot(leaves)
	for _, i := range []int{0, 1, 32767, 32768, 65534, 65535, 65536} {
		right(t, "its own proof", root, leaves[i], prove(t, leaves, i))
	}
}

func TestEachLeafsProofIsRightByChance(t *testing.T) {
	r := rand.New(rand.NewSource(54))
	for range 300 {
		leaves := make([][]byte, 1+r.Intn(40))
		for i := range leaves {
			leaves[i] = make([]byte, r.Intn(3)*r.Intn(70))
			r.Read(leaves[i])
		}
		root := merkle.Root(leaves)
		if root != wantRoot(leaves) {
			t.Fatalf("Root of %d: %x", len(leaves), root)
		}
		for i, b := range leaves {
			p := prove(t, leaves, i)
			right(t, "its own proof", root, b, p)
			nothing(t, "the leaf itself", leaves, b, p)
			wrong(t, "other bytes", root, append([]byte("x"), b...), p)
		}
	}
}

// What holds for all calls: nothing that is handed in is changed or kept, and answers are the caller's own.

func TestNothingHandedInIsChanged(t *testing.T) {
	backing := []byte("onetwothree and more behind it")
	leaves := [][]byte{backing[:3], backing[3:6], backing[6:11], nil, {}}
	lists := slices.Clone(leaves)
	b := backing[3:6]
	p := prove(t, leaves[:3], 1)
	p.Path = append(p.Path, api.Hash{7}, api.Hash{8})
	kept := slices.Clone(p.Path)
	p.Path = p.Path[:2]
	merkle.Leaf(b)
	root := merkle.Root(leaves[:3])
	right(t, "a proof with room behind it", root, b, p)
	nothing(t, "a proof with room behind it", leaves[:3], b, p)
	wrong(t, "other bytes", root, backing[:3], p)
	if string(backing) != "onetwothree and more behind it" || !slices.Equal(p.Path[:4], kept) || p.Index != 1 || p.Count != 3 {
		t.Error("what was handed in was changed")
	}
	for i := range leaves {
		if !bytes.Equal(leaves[i], lists[i]) || (leaves[i] == nil) != (lists[i] == nil) {
			t.Errorf("the leaf %d was changed", i)
		}
	}
}

func TestProofsAreTheCallersOwn(t *testing.T) {
	leaves := numbered(5)
	first, second := prove(t, leaves, 2), prove(t, leaves, 2)
	for k := range first.Path {
		first.Path[k] = api.Hash{}
	}
	_ = append(first.Path[:1], api.Hash{1}, api.Hash{2})
	root := merkle.Root(leaves)
	right(t, "a second proof", root, leaves[2], second)
	right(t, "a third proof", root, leaves[2], prove(t, leaves, 2))
	leaves[2][0] ^= 1
	wrong(t, "a leaf that was changed", root, leaves[2], second)
	if merkle.Root(leaves) == root {
		t.Error("Root has kept its leaves")
	}
	leaves[2][0] ^= 1
	right(t, "a leaf that was changed back", root, leaves[2], second)
}

func FuzzCheck(f *testing.F) {
	f.Add(3, 2, 3, []byte("usufruct"), []byte{})
	f.Add(1, 0, 1, []byte{}, []byte{0})
	f.Fuzz(func(t *testing.T, n, index, count int, b, sums []byte) {
		if n < 0 || n > 64 {
			return
		}
		leaves := numbered(n)
		p := api.Proof{Index: index, Count: count}
		for len(sums) >= 32 {
			p.Path = append(p.Path, api.Hash(sums))
			sums = sums[32:]
		}
		own, err := merkle.Prove(leaves, index)
		is := err == nil && count == n && slices.Equal(p.Path, own.Path) && bytes.Equal(b, leaves[index])
		if merkle.Check(merkle.Root(leaves), b, p) != is {
			t.Errorf("Check of %+v with %x: not %t", p, b, is)
		}
		nothing(t, "by chance", leaves, b, p)
	})
}
