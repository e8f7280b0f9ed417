package mir_test

import (
	"fmt"
	"math"
	"reflect"
	"slices"
	"strings"
	"testing"

	"usufruct/api"
	"usufruct/mir"
)

// may asks the same of empty lists that are not nil.
func may(t *testing.T, what string, m api.Mir, want bool) {
	t.Helper()
	if mir.May(m) != want || mir.May(hollowed(m)) != want {
		t.Errorf("16.1: %s: May is not %v", what, want)
	}
}

func TestOrdinary(t *testing.T) {
	may(t, "full", full(), true)
	may(t, "no points", of(), true)
	may(t, "one local, one point", api.Mir{Locals: make([]api.Local, 1), Code: []api.Inst{{Kind: api.InstEnd}}}, true)
	may(t, "a ring without an end", api.Mir{Locals: make([]api.Local, 1), Code: []api.Inst{{Kind: api.InstGo, Next: []int{0}}}}, true)
	may(t, "none", api.Mir{}, false)
	may(t, "stuffed", stuffed(), false)
}

// full is asked to have each Kind that there is, so that the tests below try it.
func TestFullHasEachKind(t *testing.T) {
	kinds := map[string]bool{}
	m := full()
	each(reflect.ValueOf(&m).Elem(), "", func(path string, v reflect.Value) {
		switch x := v.Interface().(type) {
		case api.Inst:
			kinds[fmt.Sprint("instruction ", x.Kind)] = true
		case api.MValue:
			kinds[fmt.Sprint("value ", x.Kind)] = true
		case api.MOper:
			kinds[fmt.Sprint("operand ", x.Kind)] = true
		case api.RType:
			kinds[fmt.Sprint("type ", x.Kind)] = true
		}
	})
	for what, l := range map[string][2]int{"instruction": {1, 6}, "value": {1, 7}, "operand": {1, 4}, "type": {0, 5}} {
		for kind := l[0]; kind <= l[1]; kind++ {
			if !kinds[fmt.Sprint(what, " ", kind)] {
				t.Errorf("full has no %s %d", what, kind)
			}
		}
	}
}

// bare is a function that names no region.
func bare() api.Mir {
	return api.Mir{Locals: make([]api.Local, 1), Code: []api.Inst{{Kind: api.InstEnd}}}
}

func TestFreeAndRegions(t *testing.T) {
	l := []int{math.MinInt, -1<<20 - 1, -1 << 20, -1, 0, 1, 2, 1<<20 - 1, 1 << 20, 1<<20 + 1, 1 << 32, 1<<32 + 1, math.MaxInt}
	for _, free := range l {
		for _, regions := range l {
			m := bare()
			m.Free, m.Regions = free, regions
			may(t, fmt.Sprint("Free ", free, ", Regions ", regions), m, 0 <= free && free <= regions && regions <= 1048576)
		}
	}
}

func TestKnown(t *testing.T) {
	for _, free := range []int{0, 1, 3, 1 << 20} {
		for _, n := range numbers(free) {
			want := 0 <= n && n < free
			for what, known := range map[string][][2]int{
				"the first":               {{n, 0}},
				"the second":              {{0, n}},
				"the first of the second": {{0, 0}, {n, 0}},
				"the second of the last":  {{0, 0}, {0, 0}, {0, n}},
				"both":                    {{n, n}},
			} {
				m := bare()
				m.Free, m.Regions, m.Known = free, 1<<20, known
				may(t, fmt.Sprint("Known: ", what, " is ", n, " of ", free), m, want)
			}
		}
	}
	m := bare()
	m.Free, m.Regions, m.Known = 2, 2, slices.Repeat([][2]int{{0, 1}, {1, 1}}, 10000)
	may(t, "many Known", m, true)
	m.Known[19999][1] = 2
	may(t, "many Known, the last one wrong", m, false)
}

func TestHowManyLocalsAndPoints(t *testing.T) {
	counts := []int{0, 1, 2, 5999, 6000, 6001, 12000, 1 << 16}
	for _, locals := range counts {
		for _, points := range counts {
			m := api.Mir{Locals: make([]api.Local, locals), Code: slices.Repeat([]api.Inst{{Kind: api.InstEnd}}, points)}
			if want := locals >= 1 && locals <= 6000 && points >= 1 && points <= 6000; mir.May(m) != want {
				t.Errorf("16.1: %d locals, %d points: May is not %v", locals, points, want)
			}
		}
	}
}

// The last of as many as may be are there as all others are.
func TestTheLastLocalAndPoint(t *testing.T) {
	m := api.Mir{Locals: make([]api.Local, 6000), Code: slices.Repeat([]api.Inst{{Kind: api.InstDead, To: path(5999), Next: []int{5999}}}, 6000)}
	may(t, "the last local and point", m, true)
	may(t, "a local behind the last one", with(m, ".Code.5999.To.Local", func(v reflect.Value) { v.SetInt(6000) }), false)
	may(t, "a point behind the last one", with(m, ".Code.5999.Next.0", func(v reflect.Value) { v.SetInt(6000) }), false)
	may(t, "a local that may not be", with(m, ".Locals.5999.Type.Kind", func(v reflect.Value) { v.SetInt(6) }), false)
}

// Instructions.

func TestKindsAndNexts(t *testing.T) {
	want := map[int]int{api.InstSet: 1, api.InstDead: 1, api.InstDrop: 1, api.InstIf: 2, api.InstGo: 1, api.InstEnd: 0}
	for _, kind := range append(numbers(7), 1, 2, 3, 4, 5) {
		for next := range 5 {
			m := of(api.Inst{Kind: kind, Value: value(api.ValueOper, mInt(1))})
			m.Code[0].Next = []int{1, 0, 1, 0}[:next]
			n, is := want[kind]
			may(t, fmt.Sprintf("an instruction of the Kind %d with %d of Next", kind, next), m, is && n == next)
		}
	}
}

func TestWhereNextLeads(t *testing.T) {
	m := full()
	tried := 0
	for i, x := range m.Code {
		for k := range x.Next {
			for _, n := range numbers(len(m.Code)) {
				tried++
				spoilt := with(m, fmt.Sprint(".Code.", i, ".Next.", k), func(v reflect.Value) { v.SetInt(int64(n)) })
				may(t, fmt.Sprintf("Next %d of %+v is %d", k, x, n), spoilt, 0 <= n && n < len(m.Code))
			}
		}
	}
	if tried != (len(m.Code)-1+4)*11 {
		t.Errorf("16.1: %d of Next were tried", tried)
	}
}

// operPlaces are functions with an operand in each place where one stands.
func operPlaces(o api.MOper) map[string]api.Mir {
	ok := mInt(1)
	l := map[string]api.Mir{"if": of(dead(1), branch(o))}
	for what, v := range map[string]api.MValue{
		"alone":                 value(api.ValueOper, o),
		"not":                   value(api.ValueNot, o),
		"op's first":            valueOp(api.OpSub, o, ok),
		"op's second":           valueOp(api.OpLess, ok, o),
		"a call's":              call(api.ValueCall, "g", nil, o),
		"a call's last":         call(api.ValueCall, "g", nil, ok, mCopy(0), o),
		"a made struct's first": call(api.ValueMake, "S", []int{0}, o, ok),
		"a made struct's":       call(api.ValueMake, "S", nil, ok, o),
	} {
		l[what] = of(set(path(0), v))
		l[what+", put nowhere"] = of(only(v))
	}
	return l
}

func TestKindsOfOperands(t *testing.T) {
	for _, kind := range append(numbers(5), 1, 2, 3) {
		for what, m := range operPlaces(api.MOper{Kind: kind}) {
			may(t, fmt.Sprint(what, ": an operand of the Kind ", kind), m, kind >= 1 && kind <= 4)
		}
	}
}

func TestKindsOfValues(t *testing.T) {
	for _, kind := range append(numbers(8), 1, 2, 3, 4, 5, 6) {
		v := api.MValue{Kind: kind, A: mInt(1), B: mBool(0)}
		want := kind >= 1 && kind <= 7
		may(t, fmt.Sprint("a value of the Kind ", kind), of(set(path(0), v)), want)
		may(t, fmt.Sprint("a value of the Kind ", kind, ", put nowhere"), of(only(v)), want)
		i := branch(mInt(1))
		i.Value.Kind = kind
		may(t, fmt.Sprint("an if's value of the Kind ", kind), of(i), true)
	}
}

// Ops are no Kinds.
func TestOpsAreNotAsked(t *testing.T) {
	for _, op := range append(numbers(5), 1, 2, 3, 4) {
		may(t, fmt.Sprint("an Op ", op), of(only(valueOp(op, mInt(1), mInt(2)))), true)
	}
}

// pathPlaces are functions with a path in each place where a Kind names one.
func pathPlaces(p api.Path) map[string]api.Mir {
	l := map[string]api.Mir{
		"set":  of(set(p, value(api.ValueOper, mInt(1)))),
		"dead": of(api.Inst{Kind: api.InstDead, To: p}),
		"drop": of(drop(p)),
		"&":    of(set(path(0), loan(api.ValueRef, p, 1))),
		"&mut": of(only(loan(api.ValueMut, p, 1))),
	}
	for kind, name := range map[int]string{api.MCopy: "copy", api.MMove: "move"} {
		for what, m := range operPlaces(api.MOper{Kind: kind, Path: p}) {
			l[name+": "+what] = m
		}
	}
	return l
}

func TestLocalsOfPaths(t *testing.T) {
	long := times(1000, func(int) string { return "f" })
	for _, local := range append(numbers(4), 1, 2) {
		for _, steps := range [][]string{nil, {"*"}, {"f", "*", "g"}, {"", "fn", "\xff", "a::b"}, long} {
			for what, m := range pathPlaces(path(local, steps...)) {
				may(t, fmt.Sprint(what, ": the local ", local), m, 0 <= local && local < 4)
			}
		}
	}
}

// Where no path is named, none is asked.
func TestPathsThatAreNotNamed(t *testing.T) {
	for _, local := range numbers(4) {
		for _, kind := range []int{api.MInt, api.MBool} {
			for what, m := range operPlaces(api.MOper{Kind: kind, N: local, Path: path(local, "f")}) {
				may(t, fmt.Sprint(what, ": a number's local ", local), m, true)
			}
		}
		i := only(value(api.ValueOper, mInt(1)))
		i.To = path(local)
		may(t, fmt.Sprint("a value that is put nowhere: the local ", local), of(i), true)
		i.Has = true
		may(t, fmt.Sprint("a value that is put somewhere: the local ", local), of(i), 0 <= local && local < 4)
	}
}

// Has is InstSet's alone.
func TestHasOfOthers(t *testing.T) {
	for _, has := range []bool{false, true} {
		for _, kind := range []int{api.InstDead, api.InstDrop, api.InstIf, api.InstGo} {
			for _, local := range []int{-1, 0, 3, 4} {
				i := api.Inst{Kind: kind, Has: has, To: path(local), Value: api.MValue{A: mInt(0)}}
				want := kind == api.InstIf || kind == api.InstGo || 0 <= local && local < 4
				may(t, fmt.Sprintf("%+v", i), of(i), want)
			}
		}
	}
}

// Regions.

func TestRegionsOfValues(t *testing.T) {
	for _, n := range append(numbers(6), 1, 2, 3, 4) {
		for what, v := range map[string]api.MValue{
			"&":                        loan(api.ValueRef, path(0), n),
			"&mut":                     loan(api.ValueMut, path(0), n),
			"a call's":                 call(api.ValueCall, "g", []int{n}),
			"a call's last":            call(api.ValueCall, "g", []int{0, 5, n}, mInt(1)),
			"a made struct's":          call(api.ValueMake, "S", []int{n}),
			"a made struct's first":    call(api.ValueMake, "S", []int{n, 1}),
			"a made struct's, with it": call(api.ValueMake, "S", []int{n, 1}, mInt(1), mInt(2)),
		} {
			may(t, fmt.Sprint(what, " region ", n), of(set(path(0), v)), 0 <= n && n < 6)
			may(t, fmt.Sprint(what, " region ", n, ", put nowhere"), of(only(v)), 0 <= n && n < 6)
		}
	}
	many := call(api.ValueCall, "g", slices.Repeat([]int{5}, 5000))
	may(t, "many regions", of(only(many)), true)
	many.Regions[4999] = 6
	may(t, "many regions, the last one wrong", of(only(many)), false)
}

// With no regions there is none that may be named.
func TestNoRegions(t *testing.T) {
	for _, v := range []api.MValue{loan(api.ValueRef, path(0), 0), loan(api.ValueMut, path(0), 0), call(api.ValueCall, "g", []int{0}), call(api.ValueMake, "S", []int{0})} {
		m := bare()
		i := only(v)
		i.Next = []int{0}
		m.Code = []api.Inst{i}
		may(t, fmt.Sprintf("no regions: %+v", v), m, false)
		m.Regions = 1
		may(t, fmt.Sprintf("one region: %+v", v), m, true)
	}
	for _, x := range []api.RType{rTo(api.KindRef, rInt(), 0), rNamed("S", 0)} {
		m := bare()
		m.Locals[0].Type = x
		may(t, fmt.Sprintf("no regions: %+v", x), m, false)
		m.Regions = 1
		may(t, fmt.Sprintf("one region: %+v", x), m, true)
	}
}

// Fields that are not named.

// named tells whether an instruction's Kind names what stands at a path within it, and so, whether it is asked.
func named(i api.Inst, path string) bool {
	switch {
	case path == ".Kind" || strings.HasPrefix(path, ".Next"):
		return true
	case path == ".To.Local":
		return i.Kind == api.InstDead || i.Kind == api.InstDrop || i.Kind == api.InstSet && i.Has
	case path == ".Value.Kind":
		return i.Kind == api.InstSet
	case strings.HasPrefix(path, ".Value.A."):
		is := i.Kind == api.InstIf || i.Kind == api.InstSet && slices.Contains([]int{api.ValueOper, api.ValueNot, api.ValueOp}, i.Value.Kind)
		return is && namedOper(i.Value.A, strings.TrimPrefix(path, ".Value.A"))
	case strings.HasPrefix(path, ".Value.B."):
		return i.Kind == api.InstSet && i.Value.Kind == api.ValueOp && namedOper(i.Value.B, strings.TrimPrefix(path, ".Value.B"))
	case path == ".Value.Path.Local" || path == ".Value.Region":
		return i.Kind == api.InstSet && (i.Value.Kind == api.ValueRef || i.Value.Kind == api.ValueMut)
	case strings.HasPrefix(path, ".Value.Regions."):
		return i.Kind == api.InstSet && (i.Value.Kind == api.ValueCall || i.Value.Kind == api.ValueMake)
	}
	for k, o := range i.Value.Args {
		if rest, is := strings.CutPrefix(path, fmt.Sprint(".Value.Args.", k)); is {
			return i.Kind == api.InstSet && (i.Value.Kind == api.ValueCall || i.Value.Kind == api.ValueMake) && namedOper(o, rest)
		}
	}
	return false
}

func namedOper(o api.MOper, path string) bool {
	return path == ".Kind" || path == ".Path.Local" && (o.Kind == api.MCopy || o.Kind == api.MMove)
}

// Each number of each instruction becomes one that is in no range: just what its Kind names is asked. So it is in instructions whose other fields are full of such numbers already.
func TestFieldsThatAKindDoesNotName(t *testing.T) {
	var code []api.Inst
	for _, i := range full().Code {
		code = append(code, i, crowded(i))
	}
	at := func(i api.Inst) api.Mir {
		m := of(dead(0), dead(1))
		m.Code = append(slices.Repeat(m.Code[:1], 17), i)
		return m
	}
	for _, i := range code {
		may(t, fmt.Sprintf("%+v", i), at(i), true)
		asked := 0
		for _, path := range spots(i, reflect.Int) {
			for _, n := range []int64{math.MinInt, -1, 10000, math.MaxInt} {
				spoilt := with(i, path, func(v reflect.Value) { v.SetInt(n) })
				may(t, fmt.Sprintf("%+v: %s is %d", i, path, n), at(spoilt), !named(i, path))
			}
			if named(i, path) {
				asked++
			}
		}
		if asked == 0 {
			t.Errorf("16.1: nothing is asked of %+v", i)
		}
	}
}

// crowded has in all fields that the instruction's Kind does not name what may not be.
func crowded(i api.Inst) api.Inst {
	i = clone(i)
	if i.Kind != api.InstSet || !slices.Contains([]int{api.ValueCall, api.ValueMake}, i.Value.Kind) {
		i.Value.Args = []api.MOper{{Kind: 9}, mCopy(-1), mMove(77)}
		i.Value.Regions = []int{-1, 77}
	}
	for _, path := range spots(i, reflect.Int) {
		if !named(i, path) {
			i = with(i, path, func(v reflect.Value) { v.SetInt(-5) })
		}
	}
	if i.Kind != api.InstSet {
		i.Has = true
	}
	i.Value.Name = "::"
	return i
}

// Names, steps, places in the text, numbers of operands and of operations, and whether a local is a parameter, are not asked.
func TestOtherFieldsAreNotAsked(t *testing.T) {
	m := full()
	tried := 0
	each(reflect.ValueOf(&m).Elem(), "", func(path string, v reflect.Value) {
		free := v.Kind() == reflect.String || slices.Contains([]string{"At", "N", "Op", "Param"}, path[strings.LastIndex(path, ".")+1:])
		if !free {
			return
		}
		for _, change := range changes(v) {
			tried++
			may(t, path, with(m, path, change), true)
		}
	})
	if tried < 500 {
		t.Errorf("16.1: only %d changes were tried", tried)
	}
}

func TestMayLeavesWhatItIsHanded(t *testing.T) {
	for _, m := range []api.Mir{{}, bare(), full(), hollowed(full()), stuffed()} {
		kept(t, "16.1: May", m, func(m api.Mir) { mir.May(m) })
	}
}

// 16.1: functions that may be, and the same with a few things spoilt.
func TestMayByChance(t *testing.T) {
	m := newMaker(160)
	told := map[bool]int{}
	for range 3000 {
		x := m.mir()
		may(t, short(x), x, true)
		if !wantMay(x) {
			t.Fatalf("%s: the other way of telling says that it may not be", short(x))
		}
		for range 5 {
			x = m.spoil(x)
			want := wantMay(x)
			told[want]++
			may(t, short(x), x, want)
		}
	}
	if min(told[true], told[false]) < 2500 {
		t.Errorf("16.1: chance told too few: %v", told)
	}
}
