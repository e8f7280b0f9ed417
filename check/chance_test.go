package check_test

import (
	"math/rand"
	"reflect"
	"slices"
	"testing"

	"usufruct/api"
	"usufruct/check"
	"usufruct/fault"
	"usufruct/scope"
	"usufruct/tree"
)

var results = []string{"", "", "int", "P", "&'a int", "&'a mut P", "S<'a>"}

// made is a function by chance, within a scope.
func made(t *testing.T, seed int64, spoil, count int) (*scope.Scope, api.Func) {
	t.Helper()
	c, s := scoped(t, within(results[seed%int64(len(results))], ""))
	f := last(c)
	f.At = 7
	f.Body = newMaker(seed, s, f, spoil).body(count)
	return s, f
}

func TestFuncByChance(t *testing.T) {
	seen := map[api.Errno]int{}
	ends, goes := 0, 0
	for seed := range int64(6000) {
		s, f := made(t, seed, 60, 5+int(seed%60))
		code, at := api.OK, 0
		if bad := wantFunc(s, f); bad != nil {
			code, at = bad.code, bad.at
		}
		isError(t, "15.2: "+short(f.Body), check.Func(s, f), code, at)
		if check.Goes(f.Body) != wantGoes(f.Body) {
			t.Fatalf("15.1: %s: not %v", short(f.Body), wantGoes(f.Body))
		}
		if t.Failed() {
			t.FailNow()
		}
		seen[code]++
		if code != api.OK && at == f.At {
			ends++
		}
		if wantGoes(f.Body) {
			goes++
		}
	}
	for _, code := range []api.Errno{api.OK, api.ErrFlow, api.ErrTwice, api.ErrName, api.ErrArgs, api.ErrLife, api.ErrMut, api.ErrType, api.ErrBehind} {
		if seen[code] < 20 {
			t.Errorf("15.2: error %d is told %d times alone", code, seen[code])
		}
	}
	if ends < 20 || goes < 500 || goes > 5500 {
		t.Errorf("15.2: %d ends, %d go on", ends, goes)
	}
}

// What chance makes is right without what need not be, and a text may mean it.
func TestRightByChance(t *testing.T) {
	statements := 0
	for seed := range int64(700) {
		s, f := made(t, seed, 0, 60)
		statements += countOf(f.Body)
		if wantGoes(f.Body) && f.Result.Kind != api.KindUnit {
			continue
		}
		isError(t, "15.2: "+short(f.Body), check.Func(s, f), api.OK, 0)
		if !tree.May(api.Crate{Funcs: []api.Func{f}}) {
			t.Fatalf("15.2: no text means %s", short(f.Body))
		}
	}
	if statements < 5000 {
		t.Errorf("15.2: only %d statements", statements)
	}
}

func TestCrateByChance(t *testing.T) {
	wrongs := map[int]int{}
	for seed := range int64(400) {
		c, s := scoped(t, within("", ""))
		f := last(c)
		var want []int
		code, place := api.OK, 0
		var funcs []api.Func
		for i := range 6 {
			g := f
			g.At = 100*i + 3
			g.Body = newMaker(seed*10+int64(i), s, g, 400).body(20)
			funcs = append(funcs, g)
			if bad := wantFunc(s, g); bad != nil && code == api.OK {
				code, place, want = bad.code, i+1, []int{g.At, bad.at}
			}
		}
		err := check.Crate(s, api.Crate{Funcs: funcs})
		if fault.Code(err) != code || !slices.Equal(fault.Path(err), want) {
			t.Fatalf("15.3: error %d at %v, not %d at %v", fault.Code(err), fault.Path(err), code, want)
		}
		wrongs[place]++
	}
	for place := range 7 {
		if wrongs[place] < 5 {
			t.Errorf("15.3: only %d with the first error in %d", wrongs[place], place)
		}
	}
}

// 15.4: blocks that are right, each on its own, are right one behind the other, in one of them or in a function's body.
func TestBlocksBehindEachOther(t *testing.T) {
	tried, behind := 0, 0
	for seed := range int64(300) {
		c, s := scoped(t, within("", ""))
		f := last(c)
		var all []api.Stmt
		for i := range 6 {
			then := newMaker(seed*10+int64(i), s, f, 500).body(40)
			for !wantGoes(then) {
				then = then[:len(then)-1]
			}
			block := api.Stmt{Kind: api.StmtBlock, At: i, Then: then}
			f.Body = []api.Stmt{block}
			if check.Func(s, f) != nil {
				continue
			}
			all = append(all, block)
			behind += len(block.Then)
		}
		for _, body := range [][]api.Stmt{all, {{Kind: api.StmtBlock, Then: all}}, append(all[:len(all):len(all)], all...)} {
			f.Body = body
			isError(t, "15.4: "+short(body), check.Func(s, f), api.OK, 0)
			tried++
		}
	}
	if tried < 900 || behind < 2000 {
		t.Errorf("15.4: only %d tried, of %d statements", tried, behind)
	}
}

// garble changes a few numbers, names and lists of a tree, so that no text need mean it.
func garble(r *rand.Rand, f api.Func) api.Func {
	f = clone(f)
	var places []reflect.Value
	each(reflect.ValueOf(&f).Elem(), func(v reflect.Value) { places = append(places, v) })
	for range 1 + r.Intn(6) {
		v := places[r.Intn(len(places))]
		switch v.Kind() {
		case reflect.Int:
			v.SetInt(int64(r.Intn(14) - 2))
		case reflect.Bool:
			v.SetBool(!v.Bool())
		case reflect.String:
			v.SetString([]string{"", "x", "*", "n", "P", "z", "id", "&", "\xff"}[r.Intn(9)])
		case reflect.Slice:
			v.Set(v.Slice(0, r.Intn(v.Len()+1)))
		}
	}
	return f
}

// each goes through all that is within v, v as well.
func each(v reflect.Value, tell func(v reflect.Value)) {
	tell(v)
	switch v.Kind() {
	case reflect.Struct:
		for i := range v.NumField() {
			each(v.Field(i), tell)
		}
	case reflect.Slice:
		for i := range v.Len() {
			each(v.Index(i), tell)
		}
	}
}

// Whatever is handed in, the calls end, and tell one of the errors that the chapter names, at a statement or at the function.
func TestWhatNoTextMeansByChance(t *testing.T) {
	codes := []api.Errno{api.OK, api.ErrFlow, api.ErrTwice, api.ErrName, api.ErrArgs, api.ErrLife, api.ErrMut, api.ErrType, api.ErrBehind}
	r := rand.New(rand.NewSource(15))
	for seed := range int64(1500) {
		s, f := made(t, seed, 0, 40)
		for range 4 {
			g := garble(r, f)
			err := check.Func(s, g)
			if !slices.Contains(codes, fault.Code(err)) || len(fault.Path(err)) > 1 {
				t.Fatalf("15.2: error %d at %v", fault.Code(err), fault.Path(err))
			}
			again := check.Func(s, hollowed(g))
			if fault.Code(again) != fault.Code(err) || fault.At(again) != fault.At(err) {
				t.Fatalf("15.2: error %d at %d, and then %d at %d", fault.Code(err), fault.At(err), fault.Code(again), fault.At(again))
			}
			if check.Goes(g.Body) != wantGoes(g.Body) {
				t.Fatalf("15.1: %s: not %v", short(g.Body), wantGoes(g.Body))
			}
			check.Func(nil, g)
			check.Crate(&scope.Scope{}, api.Crate{Funcs: []api.Func{g}})
		}
	}
}

func TestFuncLeavesWhatIsHandedIn(t *testing.T) {
	for seed := range int64(60) {
		s, f := made(t, seed, 40, 30)
		ahead, _ := s.Func("f")
		kept(t, "15.2", f, func(f api.Func) { check.Func(s, f) })
		kept(t, "15.2, hollowed", hollowed(f), func(f api.Func) { check.Func(s, f) })
		kept(t, "15.3", api.Crate{Funcs: []api.Func{f, f}}, func(c api.Crate) { check.Crate(s, c) })
		if after, _ := s.Func("f"); !reflect.DeepEqual(after, ahead) {
			t.Fatal("15.2: the scope has changed")
		}
	}
}
