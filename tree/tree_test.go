package tree_test

import (
	"fmt"
	"math"
	"math/rand"
	"reflect"
	"slices"
	"strings"
	"testing"
	"unsafe"

	"usufruct/api"
	"usufruct/tree"
)

// deepest is how many parts within one another the document speaks of.
const deepest = 1 << 16

// 7.1

// same asks both ways round.
func same(t *testing.T, what string, a, b api.Crate, want bool) {
	t.Helper()
	if tree.Same(a, b) != want || tree.Same(b, a) != want {
		t.Errorf("%s: Same is not %v", what, want)
	}
}

func sameType(t *testing.T, what string, a, b api.Type, want bool) {
	t.Helper()
	if tree.SameType(a, b) != want || tree.SameType(b, a) != want {
		t.Errorf("%s: SameType is not %v", what, want)
	}
}

func TestSameOfAlike(t *testing.T) {
	same(t, "none", api.Crate{}, api.Crate{}, true)
	same(t, "full", full(), full(), true)
	same(t, "stuffed", stuffed(), stuffed(), true)
	same(t, "none and full", api.Crate{}, full(), false)
	c := full()
	same(t, "itself", c, c, true)
	sameType(t, "none", api.Type{}, api.Type{}, true)
	sameType(t, "deep", c.Funcs[0].Result, clone(c.Funcs[0].Result), true)
}

// changes are other values that could stand where v does.
func changes(v reflect.Value) []reflect.Value {
	var out []reflect.Value
	add := func(change func(x reflect.Value)) {
		x := cloned(v, false)
		change(x)
		out = append(out, x)
	}
	switch v.Kind() {
	case reflect.Int:
		add(func(x reflect.Value) { x.SetInt(0) })
		add(func(x reflect.Value) { x.SetInt(-v.Int()) })
		add(func(x reflect.Value) { x.SetInt(math.MinInt) })
		add(func(x reflect.Value) { x.SetInt(math.MaxInt) })
	case reflect.Bool:
		add(func(x reflect.Value) { x.SetBool(!v.Bool()) })
	case reflect.String:
		add(func(x reflect.Value) { x.SetString("") })
		add(func(x reflect.Value) { x.SetString(v.String() + "\x00") })
		add(func(x reflect.Value) { x.SetString(strings.ToUpper(v.String())) })
	case reflect.Slice:
		add(func(x reflect.Value) { x.SetZero() })
		if v.Len() == 0 {
			add(func(x reflect.Value) { x.Set(reflect.MakeSlice(x.Type(), 1, 1)) })
			break
		}
		add(func(x reflect.Value) { x.Set(x.Slice(0, x.Len()-1)) })
		add(func(x reflect.Value) { x.Set(x.Slice(1, x.Len())) })
		add(func(x reflect.Value) { x.Set(reflect.Append(x, x.Index(0))) })
		add(func(x reflect.Value) { reflect.Swapper(x.Interface())(0, x.Len()-1) })
	}
	return out
}

func TestSameSeesEveryField(t *testing.T) {
	was, c := stuffed(), stuffed()
	fields, tried := map[string]int{}, 0
	eachOf(&c, func(path string, v reflect.Value) {
		if v.Kind() == reflect.Struct {
			for i := range v.NumField() {
				fields[v.Type().Name()+"."+v.Type().Field(i).Name]++
			}
			return
		}
		old := cloned(v, false)
		for _, x := range changes(v) {
			if reflect.DeepEqual(x.Interface(), old.Interface()) {
				continue
			}
			tried++
			v.Set(x)
			same(t, path, was, c, false)
			v.Set(old)
		}
	})
	same(t, "put back", was, c, true)
	if len(fields) != 47 || tried < 1000 {
		t.Errorf("%d fields and %d changes were tried", len(fields), tried)
	}
}

func TestSameTypeSeesEveryField(t *testing.T) {
	was, now := stuffed().Funcs[0].Result, stuffed().Funcs[0].Result
	each(reflect.ValueOf(&now).Elem(), "", func(path string, v reflect.Value) {
		if v.Kind() == reflect.Struct {
			return
		}
		old := cloned(v, false)
		for _, x := range changes(v) {
			if !reflect.DeepEqual(x.Interface(), old.Interface()) {
				v.Set(x)
				sameType(t, path, was, now, false)
				v.Set(old)
			}
		}
	})
	sameType(t, "put back", was, now, true)
}

func TestSameTypeOfUnlike(t *testing.T) {
	types := []api.Type{
		{}, number(), truth(), named("S"), named("T"), named("d::S"), named("S", "a"), named("S", "b"), named("S", "a", "b"), named("S", "b", "a"),
		ref(api.KindRef, number()), ref(api.KindMut, number()), ref(api.KindRef, truth()), ref(api.KindRef, number(), "a"), ref(api.KindRef, number(), "b"),
		ref(api.KindRef, ref(api.KindRef, number())), ref(api.KindRef, ref(api.KindMut, number())), {Kind: api.KindRef}, {Kind: -1}, {Kind: math.MaxInt},
	}
	for i, a := range types {
		for j, b := range types {
			sameType(t, fmt.Sprint(a, " and ", b), a, b, i == j)
		}
	}
}

func TestNilAndEmptyAreOne(t *testing.T) {
	for _, c := range []api.Crate{{}, full(), stuffed()} {
		h := hollowed(c)
		same(t, "hollow", c, h, true)
		same(t, "hollow and bare", tree.Bare(c), tree.Bare(h), true)
	}
	sameType(t, "hollow", number(), hollowed(number()), true)
}

func TestBareHasAllButPlaces(t *testing.T) {
	for _, c := range []api.Crate{{}, full(), stuffed(), hollowed(full())} {
		want, ats := clone(c), 0
		eachOf(&want, func(path string, v reflect.Value) {
			if strings.HasSuffix(path, ".At") {
				v.SetInt(0)
				ats++
			}
		})
		if b := tree.Bare(c); !alike(b, want) {
			t.Errorf("Bare is %+v, not %+v", b, want)
		}
		if len(c.Structs) > 0 && ats < 24 {
			t.Errorf("only %d places were tried", ats)
		}
	}
}

// memory tells of each list and text within c where it lies, beside its path.
func memory(c *api.Crate) map[uintptr]string {
	at := map[uintptr]string{}
	eachOf(c, func(path string, v reflect.Value) {
		switch {
		case v.Kind() == reflect.Slice && v.Cap() > 0:
			at[v.Pointer()] += path
		case v.Kind() == reflect.String && v.Len() > 0:
			at[uintptr(unsafe.Pointer(unsafe.StringData(v.String())))] += path
		}
	})
	return at
}

func TestBareSharesNothing(t *testing.T) {
	twice := full()
	// Lists that are one in what is handed in are two in what is answered.
	twice.Funcs = append(twice.Funcs, twice.Funcs[0])
	for _, c := range []api.Crate{full(), stuffed(), twice} {
		b := tree.Bare(c)
		given, got := memory(&c), memory(&b)
		lists := 0
		eachOf(&b, func(path string, v reflect.Value) {
			if v.Kind() == reflect.Slice && v.Cap() > 0 || v.Kind() == reflect.String && v.Len() > 0 {
				lists++
			}
		})
		if lists != len(got) {
			t.Errorf("%d lists and texts of the answer lie in %d places", lists, len(got))
		}
		for at, path := range got {
			if from, ok := given[at]; ok {
				t.Errorf("%s of the answer is %s of what was handed in", path, from)
			}
		}
	}
}

func TestBareIsTheCallersOwn(t *testing.T) {
	c := full()
	was := clone(c)
	b := tree.Bare(c)
	bare := clone(b)
	eachOf(&b, func(path string, v reflect.Value) {
		switch v.Kind() {
		case reflect.Int:
			v.SetInt(99)
		case reflect.String:
			v.SetString("other")
		case reflect.Bool:
			v.SetBool(!v.Bool())
		}
	})
	same(t, "behind a change of the answer", c, was, true)
	b = tree.Bare(c)
	c.Funcs[0].Body[2].Then[1].Value.Place.Path[0] = "other"
	c.Funcs[0].Body[2].Else[0].Name = "other"
	c.Structs[0].Fields[1].Type.Elem[0].Lives[0] = "other"
	same(t, "behind a change of what was handed in", b, bare, true)
}

func TestEmptyListsAreNotKept(t *testing.T) {
	far := []string{"a", "b"}
	c := inBody(api.Stmt{Kind: api.StmtDrop, Place: api.Place{Name: "x", Path: far[:0]}})
	b := tree.Bare(c)
	path := b.Funcs[0].Body[0].Place.Path
	if len(path) != 0 || cap(path) != 0 || unsafe.SliceData(path) == unsafe.SliceData(far) {
		t.Error("an empty list is a piece of what was handed in")
	}
	_ = append(path, "other")
	if far[0] != "a" {
		t.Error("what was handed in has changed")
	}
}

// 7.3

func TestCount(t *testing.T) {
	one := api.Stmt{Kind: api.StmtBreak}
	cases := []struct {
		name string
		list []api.Stmt
		want int
	}{
		{"none", nil, 0},
		{"an empty list", []api.Stmt{}, 0},
		{"one", []api.Stmt{one}, 1},
		{"three", []api.Stmt{one, let("a"), one}, 3},
		{"an empty block", []api.Stmt{block()}, 1},
		{"a block of two", []api.Stmt{block(one, one)}, 3},
		{"blocks within blocks", []api.Stmt{block(block(block(one), one)), one}, 6},
		{"an if", []api.Stmt{{Kind: api.StmtIf, Cond: operBool(1), Then: []api.Stmt{one, one}}}, 3},
		{"an if with an else", []api.Stmt{{Kind: api.StmtIf, Cond: operBool(1), Has: true, Then: []api.Stmt{one}, Else: []api.Stmt{one, block(one)}}}, 5},
		{"a while", []api.Stmt{{Kind: api.StmtWhile, Cond: operBool(1), Then: []api.Stmt{one}}}, 2},
		{"a loop", []api.Stmt{{Kind: api.StmtLoop, Then: []api.Stmt{one, one}}}, 3},
		{"full's", full().Funcs[0].Body, 25},
		{"as many as may be, and more", slices.Repeat([]api.Stmt{block(one)}, api.MaxStmts), 2 * api.MaxStmts},
		{"ones within what may not be", []api.Stmt{{Kind: 99, Then: []api.Stmt{one}, Else: []api.Stmt{one}}}, 3},
	}
	for _, c := range cases {
		kept(t, c.name, c.list, func(l []api.Stmt) {
			if got := tree.Count(l); got != c.want {
				t.Errorf("%s: Count is %d, not %d", c.name, got, c.want)
			}
		})
	}
}

func TestNames(t *testing.T) {
	fork := api.Stmt{Kind: api.StmtIf, Cond: operPlace("z"), Has: true, Then: []api.Stmt{let("a"), block(let("b"))}, Else: []api.Stmt{let("c")}}
	loop := api.Stmt{Kind: api.StmtLoop, Then: []api.Stmt{let("g"), {Kind: api.StmtWhile, Cond: operBool(1), Then: []api.Stmt{let("h")}}}}
	params := []api.Field{{Name: "q", Type: number()}, {Mut: true, Name: "p", Type: number()}}
	cases := []struct {
		name string
		f    api.Func
		want string
	}{
		{"none", api.Func{}, ""},
		{"neither parameters nor lets", api.Func{Name: "f", Body: []api.Stmt{block(), set(call("g"))}}, ""},
		{"parameters", api.Func{Params: params}, "q p"},
		{"lets", api.Func{Body: []api.Stmt{let("y"), let("x")}}, "y x"},
		{"parameters ahead of lets", api.Func{Params: params, Body: []api.Stmt{let("a")}}, "q p a"},
		{"then ahead of else", api.Func{Body: []api.Stmt{fork, let("d")}}, "a b c d"},
		{"loops", api.Func{Body: []api.Stmt{loop, let("d"), loop}}, "g h d g h"},
		{"the same ones", api.Func{Params: params, Body: []api.Stmt{let("p"), let("p"), block(let("p"))}}, "q p p p p"},
		{"other Kinds' names", api.Func{Body: []api.Stmt{{Kind: api.StmtSet, Name: "no"}, {Kind: 99, Name: "no", Then: []api.Stmt{let("a")}}}}, "a"},
		{"full's", full().Funcs[0], "x y a b c a"},
	}
	for _, c := range cases {
		kept(t, c.name, c.f, func(f api.Func) {
			if got := strings.Join(tree.Names(f), " "); got != c.want {
				t.Errorf("%s: Names are %q, not %q", c.name, got, c.want)
			}
		})
	}
	if got := tree.Names(api.Func{Params: []api.Field{{}}, Body: []api.Stmt{{Kind: api.StmtLet}}}); !slices.Equal(got, []string{"", ""}) {
		t.Errorf("names that are empty: %q", got)
	}
}

func TestNamesAreTheCallersOwn(t *testing.T) {
	f := full().Funcs[0]
	names := tree.Names(f)
	given := []string{f.Params[0].Name, f.Params[1].Name, f.Body[0].Name, f.Body[1].Name}
	for i, s := range given {
		if unsafe.StringData(s) == unsafe.StringData(names[i]) {
			t.Errorf("name %d shares its bytes with what was handed in", i)
		}
	}
	names[0], names[2] = "other", "other"
	if f.Params[0].Name != "x" || f.Body[0].Name != "a" {
		t.Error("what was handed in has changed")
	}
}

// 7.4

// few is a small crate out of so few things that many are alike.
func few(r *rand.Rand) api.Crate {
	texts := []string{"", "a"}
	kind := func() api.Type {
		t := api.Type{Kind: r.Intn(2), Name: texts[r.Intn(2)], Lives: texts[:r.Intn(2)]}
		if r.Intn(2) > 0 {
			t.Elem = []api.Type{number()}
		}
		return t
	}
	stmt := func() api.Stmt {
		s := api.Stmt{Kind: api.StmtBlock, At: r.Intn(2), Name: texts[r.Intn(2)]}
		if r.Intn(2) > 0 {
			s.Then = []api.Stmt{block()}[:r.Intn(2)]
		}
		return s
	}
	var c api.Crate
	if r.Intn(2) > 0 {
		c.Structs = []api.Struct{{At: r.Intn(2), Fields: []api.Field{{Type: kind()}}}}
	}
	if r.Intn(2) > 0 {
		c.Funcs = []api.Func{{Body: []api.Stmt{stmt()}}}
	}
	return c
}

func TestSameIsAnEquality(t *testing.T) {
	r := rand.New(rand.NewSource(7))
	var list []api.Crate
	for range 120 {
		list = append(list, few(r))
	}
	alikes := 0
	for i, a := range list {
		if !tree.Same(a, a) {
			t.Errorf("%+v is not the same as itself", a)
		}
		for j, b := range list {
			got := tree.Same(a, b)
			if got != tree.Same(b, a) || got != alike(a, b) {
				t.Errorf("%+v and %+v: %v", a, b, got)
			}
			if !got || i == j {
				continue
			}
			alikes++
			for _, c := range list {
				if tree.Same(b, c) != tree.Same(a, c) {
					t.Errorf("%+v, %+v and %+v", a, b, c)
				}
			}
		}
	}
	if alikes < 100 {
		t.Errorf("only %d pairs are alike", alikes)
	}
}

func TestBareMayBeIfItMay(t *testing.T) {
	r := rand.New(rand.NewSource(8))
	count := map[bool]int{}
	for range 4000 {
		c := full()
		spoil(r, &c)
		may, b := tree.May(c), tree.Bare(c)
		count[may]++
		if tree.May(b) != may {
			t.Errorf("May is %v, and not so of a bare one: %+v", may, c)
		}
		same(t, "bare twice", b, tree.Bare(b), true)
	}
	if count[true] < 500 || count[false] < 500 {
		t.Errorf("%d may and %d may not be", count[true], count[false])
	}
}

// Rules that hold for all calls.

func TestWhatIsHandedInStays(t *testing.T) {
	for _, c := range []api.Crate{{}, full(), stuffed(), hollowed(full())} {
		kept(t, "all calls", c, func(c api.Crate) {
			tree.Same(c, c)
			tree.Bare(c)
			tree.May(c)
			for _, f := range c.Funcs {
				tree.SameType(f.Result, f.Result)
				tree.Count(f.Body)
				tree.Names(f)
			}
		})
	}
}

// nest is a block in a block, and so on, so many, with a let in each.
func nest(n int) []api.Stmt {
	var l []api.Stmt
	for i := range n {
		s := api.Stmt{Kind: api.StmtIf, At: i, Cond: operBool(1), Has: true}
		if i%2 > 0 {
			s.Then = l
		} else {
			s.Else = l
		}
		l = []api.Stmt{let("a"), s}
	}
	return l
}

func nestTypes(n int) api.Type {
	x := number()
	for range n - 1 {
		x = ref(api.KindRef, x)
	}
	return x
}

func TestDeepestThatIsPromised(t *testing.T) {
	c := inBody(nest(deepest)...)
	c.Funcs[0].Result = nestTypes(deepest)
	d := inBody(nest(deepest)...)
	d.Funcs[0].Result = nestTypes(deepest)
	same(t, "deep ones", c, d, true)
	sameType(t, "deep ones", c.Funcs[0].Result, d.Funcs[0].Result, true)
	sameType(t, "deep ones, one deeper", c.Funcs[0].Result, nestTypes(deepest+1), false)
	b := tree.Bare(c)
	same(t, "a deep one, bare", b, tree.Bare(d), true)
	same(t, "a deep one, and bare", b, c, false)
	if tree.May(c) {
		t.Error("a deep one may be")
	}
	if n := tree.Count(c.Funcs[0].Body); n != 2*deepest {
		t.Errorf("Count is %d", n)
	}
	if n := len(tree.Names(c.Funcs[0])); n != deepest {
		t.Errorf("there are %d names", n)
	}
}
