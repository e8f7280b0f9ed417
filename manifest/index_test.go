package manifest_test

import (
	"slices"
	"strconv"
	"testing"

	"usufruct/api"
	"usufruct/fault"
	"usufruct/manifest"
)

func indexed(t *testing.T, l []api.Source, want ...[]int) {
	t.Helper()
	got, err := manifest.Index(l)
	if err != nil {
		t.Fatalf("10.3: %s: error %d at %v", short(l), fault.Code(err), fault.Path(err))
	}
	if !slices.EqualFunc(got, want, slices.Equal) {
		t.Fatalf("10.3: %s: %v, not %v", short(l), got, want)
	}
}

func lacking(t *testing.T, l []api.Source, at int) {
	t.Helper()
	got, err := manifest.Index(l)
	isError(t, "10.3: "+short(l), err, api.ErrDep, at)
	if len(got) != 0 {
		t.Fatalf("10.3: %s: an index beside an error", short(l))
	}
}

func TestIndexTellsPlaces(t *testing.T) {
	indexed(t, nil)
	indexed(t, []api.Source{})
	indexed(t, []api.Source{crate("a", "x")}, nil)
	indexed(t, []api.Source{crate("a", ""), crate("b", "", "a")}, nil, []int{0})
	indexed(t, []api.Source{crate("a", "", "b"), {Name: "b", Deps: []string{}}}, []int{1}, nil)
	indexed(t, []api.Source{crate("a", "", "b"), crate("b", "", "a")}, []int{1}, []int{0})
	indexed(t, []api.Source{crate("d", "", "c", "a", "b"), crate("a", "", "b"), crate("b", ""), crate("c", "", "b", "a")}, []int{3, 1, 2}, []int{2}, nil, []int{2, 1})
	l, err := manifest.Parse("== a\nfn f() {\n}\n== b : a\n== c : b a")
	if err != nil {
		t.Fatal(err)
	}
	indexed(t, l, nil, []int{0}, []int{1, 0})
}

func TestIndexTellsTheFirstCrateThatLacksOne(t *testing.T) {
	lacking(t, []api.Source{crate("a", "", "b")}, 0)
	lacking(t, []api.Source{crate("a", ""), crate("b", "", "a", "z")}, 1)
	lacking(t, []api.Source{crate("a", ""), crate("b", "", "z", "a"), crate("c", "", "y")}, 1)
	lacking(t, []api.Source{crate("a", "", "c"), crate("b", "", "a"), crate("c", "", "a", "b", "A")}, 2)
	lacking(t, []api.Source{crate("a", "b", "b")}, 0)
	lacking(t, []api.Source{crate("a", "", "")}, 0)
	lacking(t, []api.Source{crate("ab", ""), crate("b", "", "a")}, 1)
}

// Index takes lists, too, that Parse does not tell.
func TestIndexTakesAllLists(t *testing.T) {
	indexed(t, []api.Source{crate("a", "", "a")}, []int{0})
	indexed(t, []api.Source{crate("a", "==", "b", "b", "a"), crate("b", "")}, []int{1, 1, 0}, nil)
	indexed(t, []api.Source{crate("a", ""), crate("b", "", "a"), crate("a", "", "b", "a"), crate("b", "")}, nil, []int{0}, []int{1, 0}, nil)
	indexed(t, []api.Source{crate("", "", "fn"), crate("fn", "", "", "\n"), crate("\n", "")}, []int{1}, []int{0, 2}, nil)
	// More crates and dependencies than a workspace may have.
	var l []api.Source
	var want [][]int
	all := names(100000, "a")
	for i, name := range all {
		l = append(l, crate(name, "", all[len(all)-1-i]))
		want = append(want, []int{len(all) - 1 - i})
	}
	indexed(t, l, want...)
	l[77777].Deps = all
	want[77777] = nil
	for i := range all {
		want[77777] = append(want[77777], i)
	}
	indexed(t, l, want...)
	l[77777].Deps = append(all[:99999:99999], strconv.Itoa(0))
	lacking(t, l, 77777)
}

func TestIndexOfCratesByChance(t *testing.T) {
	right := 0
	for seed := range int64(20000) {
		m := newMaker(seed)
		l := m.crates()
		for i := range l {
			for j := range l[i].Deps {
				if !m.oneIn(20) {
					l[i].Deps[j] = l[m.r.Intn(len(l))].Name
				}
			}
		}
		kept(t, l, func() {
			if want, at, ok := wantIndex(l); ok {
				right++
				indexed(t, l, want...)
			} else {
				lacking(t, l, at)
			}
		})
	}
	if right < 5000 || right > 19000 {
		t.Errorf("%d of 20000 lists have an index: the maker is wrong", right)
	}
}

func TestIndexAnswersOwnMemory(t *testing.T) {
	l := []api.Source{crate("a", "", "b", "c"), crate("b", "", "c", "a"), crate("c", "", "a", "b")}
	got, err := manifest.Index(l)
	if err != nil {
		t.Fatal(err)
	}
	_ = append(got[0], 7, 7, 7)
	got[1][0] = 7
	if !slices.Equal(got[1], []int{7, 0}) || !slices.Equal(got[2], []int{0, 1}) {
		t.Errorf("lists of one answer share memory: %v", got)
	}
	indexed(t, l, []int{1, 2}, []int{2, 0}, []int{0, 1})
}
