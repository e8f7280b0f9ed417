package tree_test

import (
	"fmt"
	"math"
	"reflect"
	"regexp"
	"slices"
	"strings"
	"testing"

	"usufruct/api"
	"usufruct/tree"
)

// may asks the same of empty lists that are not nil.
func may(t *testing.T, what string, c api.Crate, want bool) {
	t.Helper()
	if tree.May(c) != want {
		t.Errorf("%s: May is not %v", what, want)
	}
	if tree.May(hollowed(c)) != want {
		t.Errorf("%s, with empty lists: May is not %v", what, want)
	}
}

func inStruct(s api.Struct) api.Crate { return api.Crate{Structs: []api.Struct{s}} }

func inFunc(f api.Func) api.Crate { return api.Crate{Funcs: []api.Func{f}} }

// typePlaces are crates with a type in each place where one stands (the Result is not among them).
func typePlaces(x api.Type) map[string]api.Crate {
	s := let("a")
	s.Type = x
	return map[string]api.Crate{
		"a field":          inStruct(api.Struct{Name: "S", Fields: []api.Field{{Name: "f", Type: number()}, {Name: "g", Type: x}}}),
		"a parameter":      inFunc(api.Func{Name: "f", Params: []api.Field{{Name: "y", Type: number()}, {Name: "x", Type: x}}}),
		"a let":            inBody(s),
		"a let in a block": inBody(block(s)),
	}
}

func withResult(x api.Type) api.Crate { return inFunc(api.Func{Name: "f", Result: x}) }

// operPlaces are crates with an operand in each place where one stands.
func operPlaces(o api.Oper) map[string]api.Crate {
	ok := operInt(1)
	return map[string]api.Crate{
		"if":              inBody(api.Stmt{Kind: api.StmtIf, Cond: o}),
		"if with an else": inBody(api.Stmt{Kind: api.StmtIf, Cond: o, Has: true}),
		"while":           inBody(api.Stmt{Kind: api.StmtWhile, Cond: o}),
		"alone":           inBody(set(api.Value{Kind: api.ValueOper, A: o})),
		"not":             inBody(set(api.Value{Kind: api.ValueNot, A: o})),
		"op's first":      inBody(set(api.Value{Kind: api.ValueOp, Op: api.OpSub, A: o, B: ok})),
		"op's second":     inBody(set(api.Value{Kind: api.ValueOp, Op: api.OpLess, A: ok, B: o})),
		"a call's":        inBody(set(call("g", ok, o))),
		"a call alone":    inBody(api.Stmt{Kind: api.StmtCall, Value: call("g", ok, o)}),
		"a made struct's": inBody(set(api.Value{Kind: api.ValueMake, Name: "S", Names: []string{"f", "g"}, Args: []api.Oper{ok, o}})),
	}
}

// placePlaces are crates with a place in each place where one stands.
func placePlaces(p api.Place) map[string]api.Crate {
	out := operPlaces(api.Oper{Kind: api.OperPlace, Place: p})
	out["set"] = inBody(api.Stmt{Kind: api.StmtSet, Place: p, Value: call("g")})
	out["drop"] = inBody(api.Stmt{Kind: api.StmtDrop, Place: p})
	out["&"] = inBody(set(api.Value{Kind: api.ValueRef, Place: p}))
	out["&mut"] = inBody(set(api.Value{Kind: api.ValueMut, Place: p}))
	return out
}

func kinds(last int) []int {
	out := []int{math.MinInt, -1, math.MaxInt, 1 << 32, 256}
	for k := range last + 2 {
		out = append(out, k)
	}
	return out
}

func TestOrdinary(t *testing.T) {
	may(t, "none", api.Crate{}, true)
	may(t, "full", full(), true)
	may(t, "stuffed", stuffed(), false)
	may(t, "a let of KindUnit", inBody(api.Stmt{Kind: api.StmtLet, Name: "a"}), false)
}

func TestPlacesInTheTextAreNotAsked(t *testing.T) {
	for _, at := range []int{-1, 0, 1, math.MinInt, math.MaxInt} {
		c, ats := full(), 0
		eachOf(&c, func(path string, v reflect.Value) {
			if strings.HasSuffix(path, ".At") {
				v.SetInt(int64(at))
				ats++
			}
		})
		may(t, fmt.Sprint("all At ", at), c, true)
		if ats < 28 {
			t.Errorf("only %d places were tried", ats)
		}
	}
}

func TestItems(t *testing.T) {
	s, f := api.Struct{Name: "S"}, api.Func{Name: "f"}
	for _, structs := range []int{0, 1, 100, api.MaxItems - 1, api.MaxItems, api.MaxItems + 1} {
		for _, funcs := range []int{0, 1, 2, 156, 157, api.MaxItems, api.MaxItems + 1} {
			c := api.Crate{Structs: slices.Repeat([]api.Struct{s}, structs), Funcs: slices.Repeat([]api.Func{f}, funcs)}
			may(t, fmt.Sprint(structs, " structs and ", funcs, " functions"), c, structs+funcs <= api.MaxItems)
		}
	}
}

// Names.

// Each name's form, told by patterns: what the words are is told by itself.
var (
	plainForm = regexp.MustCompile(`^[A-Za-z_][0-9A-Za-z_]{0,31}$`)
	wordForm  = regexp.MustCompile(`^(fn|struct|pub|let|mut|if|else|while|loop|break|continue|return|drop|true|false|int|bool)$`)
)

func isPlain(s string) bool { return plainForm.MatchString(s) && !wordForm.MatchString(s) }

func isLife(s string) bool { return plainForm.MatchString(s) }

func isFar(s string) bool {
	l := strings.Split(s, "::")
	return len(l) <= 2 && !slices.ContainsFunc(l, func(s string) bool { return !isPlain(s) })
}

func isStep(s string) bool { return s == "*" || isPlain(s) }

// nameTexts are right and wrong ones.
func nameTexts() []string {
	long := strings.Repeat("n", api.MaxName)
	out := []string{
		"", "x", "_", "_1", "A9z", "S", "lets", "Fn", "fn_", "é", "aé", "a b", " a", "a ", "a\n", "a\x00", "1", "1a", "0", "'a", "&a", "*", "**", "a.b", ".",
		"::", "a::", "::a", "a::b", "a::b::c", "a::::b", "a:b", "a: :b", "a ::b", "a:::b", "a::b::", "a::*", "*::a", "a::1", "1::a", "a::fn", "fn::a", "int::bool",
		long, long + "n", long + "::" + long, long + "n::a", "a::" + long + "n", long + "::" + long + "::a",
	}
	return append(out, strings.Fields("fn struct pub let mut if else while loop break continue return drop true false int bool")...)
}

// namePlaces are crates with a text in each place where a name stands, and what it is asked there.
func namePlaces(s string) map[string]struct {
	c    api.Crate
	want bool
} {
	out := map[string]struct {
		c    api.Crate
		want bool
	}{}
	add := func(what string, c api.Crate, want bool) {
		out[what] = struct {
			c    api.Crate
			want bool
		}{c, want}
	}
	lives := []string{"a", s}
	add("a struct's", inStruct(api.Struct{Name: s}), isPlain(s))
	add("a function's", inFunc(api.Func{Name: s}), isPlain(s))
	add("a field's", inStruct(api.Struct{Name: "S", Fields: []api.Field{{Name: s, Type: number()}}}), isPlain(s))
	add("a parameter's", inFunc(api.Func{Name: "f", Params: []api.Field{{Name: s, Type: number()}}}), isPlain(s))
	add("a let's", inBody(let(s)), isPlain(s))
	add("a made field's", inBody(set(api.Value{Kind: api.ValueMake, Name: "S", Names: lives, Args: []api.Oper{operInt(1), operInt(2)}})), isPlain(s))
	add("a struct's lifetime", inStruct(api.Struct{Name: "S", Lives: lives}), isLife(s))
	add("a function's lifetime", inFunc(api.Func{Name: "f", Lives: []api.Life{{Name: "a"}, {Name: s}}}), isLife(s))
	add("what one outlives", inFunc(api.Func{Name: "f", Lives: []api.Life{{Name: "a", Over: lives}}}), isLife(s))
	add("a call's", inBody(set(call(s))), isFar(s))
	add("a call's alone", inBody(api.Stmt{Kind: api.StmtCall, Value: call(s)}), isFar(s))
	add("a made struct's", inBody(set(api.Value{Kind: api.ValueMake, Name: s})), isFar(s))
	for what, c := range placePlaces(place(s)) {
		add("a place's: "+what, c, isPlain(s))
	}
	for what, c := range placePlaces(place("x", "f", s)) {
		add("a part of a path's: "+what, c, isStep(s))
	}
	results := func(x api.Type) map[string]api.Crate {
		l := typePlaces(x)
		l["a result"] = withResult(x)
		l["what is referred to"] = withResult(ref(api.KindMut, x))
		return l
	}
	for what, c := range results(named(s)) {
		add("a type's: "+what, c, isFar(s))
	}
	for what, c := range results(named("S", lives...)) {
		add("a lifetime of a type's: "+what, c, isLife(s))
	}
	for what, c := range results(ref(api.KindRef, number(), s)) {
		add("a reference's lifetime: "+what, c, isLife(s))
	}
	for what, c := range results(ref(api.KindMut, number(), s)) {
		add("a mutable reference's lifetime: "+what, c, isLife(s))
	}
	return out
}

func TestNamesThatMayBe(t *testing.T) {
	for _, s := range nameTexts() {
		for what, p := range namePlaces(s) {
			may(t, fmt.Sprintf("%s: %q", what, s), p.c, p.want)
		}
	}
}

// Lists.

// listPlaces are crates with a list of so many in each place where one stands.
func listPlaces(n int) map[string]api.Crate {
	texts := slices.Repeat([]string{"a"}, n)
	fields := slices.Repeat([]api.Field{{Name: "a", Type: number()}}, n)
	args := slices.Repeat([]api.Oper{operInt(1)}, n)
	out := map[string]api.Crate{
		"a struct's Lives":   inStruct(api.Struct{Name: "S", Lives: texts}),
		"a struct's Fields":  inStruct(api.Struct{Name: "S", Fields: fields}),
		"a function's Lives": inFunc(api.Func{Name: "f", Lives: slices.Repeat([]api.Life{{Name: "a"}}, n)}),
		"Over":               inFunc(api.Func{Name: "f", Lives: []api.Life{{Name: "a", Over: texts}}}),
		"Params":             inFunc(api.Func{Name: "f", Params: fields}),
		"a result's Lives":   withResult(named("S", texts...)),
		"a call's Args":      inBody(set(call("g", args...))),
		"a call's Args, set": inBody(api.Stmt{Kind: api.StmtCall, Value: call("g", args...)}),
		"Names":              inBody(set(api.Value{Kind: api.ValueMake, Name: "S", Names: texts, Args: args})),
	}
	for what, c := range placePlaces(place("x", texts...)) {
		out["Path: "+what] = c
	}
	for what, c := range typePlaces(named("S", texts...)) {
		out["Lives: "+what] = c
	}
	return out
}

func TestLists(t *testing.T) {
	for _, n := range []int{0, 1, 2, api.MaxParts - 1, api.MaxParts, api.MaxParts + 1, 1000} {
		for what, c := range listPlaces(n) {
			may(t, fmt.Sprint(what, " of ", n), c, n <= api.MaxParts)
		}
	}
}

// Types.

func TestKindsOfTypes(t *testing.T) {
	bad := api.Type{Kind: api.KindMut}
	elems := [][]api.Type{nil, {number()}, {number(), number()}, {{}}, {bad}, {ref(api.KindRef, bad)}}
	for _, kind := range kinds(api.KindMut) {
		for _, name := range []string{"", "S"} {
			for lives := range 3 {
				for i, elem := range elems {
					x := api.Type{Kind: kind, Name: name, Lives: slices.Repeat([]string{"a"}, lives), Elem: elem}
					var want bool
					switch kind {
					case api.KindInt, api.KindBool:
						want = name == "" && lives == 0 && i == 0
					case api.KindStruct:
						want = name != "" && i == 0
					case api.KindRef, api.KindMut:
						want = name == "" && lives <= 1 && i == 1
					}
					what := fmt.Sprintf("%+v", x)
					for where, c := range typePlaces(x) {
						may(t, where+": "+what, c, want)
					}
					may(t, "referred to: "+what, withResult(ref(api.KindRef, x)), want)
					unit := kind == api.KindUnit && name == "" && lives == 0 && i == 0
					may(t, "a result: "+what, withResult(x), want || unit)
				}
			}
		}
	}
}

func TestTypesWithinOneAnother(t *testing.T) {
	ends := []api.Type{number(), truth(), named("S"), named("d::S", "a")}
	for _, kind := range []int{api.KindRef, api.KindMut} {
		for _, x := range ends {
			for depth := 1; depth <= api.MaxDepth+2; depth++ {
				want := depth <= api.MaxDepth
				for where, c := range typePlaces(x) {
					may(t, fmt.Sprint(where, " ", depth, " deep"), c, want)
				}
				may(t, fmt.Sprint("a result ", depth, " deep"), withResult(x), want)
				x = ref(kind, x)
			}
		}
	}
}

func TestMutOfFields(t *testing.T) {
	f := api.Field{Mut: true, Name: "x", Type: number()}
	may(t, "a field that is Mut", inStruct(api.Struct{Name: "S", Fields: []api.Field{f}}), false)
	may(t, "a parameter that is Mut", inFunc(api.Func{Name: "f", Params: []api.Field{f}}), true)
	may(t, "pub ones", api.Crate{Structs: []api.Struct{{Pub: true, Name: "S"}}, Funcs: []api.Func{{Pub: true, Name: "f"}}}, true)
}

// Operands, values, statements: with each choice of fields that are not zero.

func TestOperands(t *testing.T) {
	numbers := []int{math.MinInt, -1, 0, 1, 2, api.MaxInt - 1, api.MaxInt, api.MaxInt + 1, math.MaxInt}
	places := []api.Place{{}, place("x"), place("x", "f", "*"), {Path: []string{"f"}}}
	for _, kind := range kinds(api.OperPlace) {
		for _, n := range numbers {
			for i, p := range places {
				o := api.Oper{Kind: kind, N: n, Place: p}
				var want bool
				switch kind {
				case api.OperInt:
					want = n >= 0 && n <= 2147483647 && i == 0
				case api.OperBool:
					want = (n == 0 || n == 1) && i == 0
				case api.OperPlace:
					want = n == 0 && (i == 1 || i == 2)
				}
				for what, c := range operPlaces(o) {
					may(t, fmt.Sprintf("%s: %+v", what, o), c, want)
				}
			}
		}
	}
}

// chosen has those fields of sample that the bits of choice name, and tells their names.
func chosen[T any](sample T, choice int) (out T, has map[string]bool) {
	has = map[string]bool{}
	from, to := reflect.ValueOf(sample), reflect.ValueOf(&out).Elem()
	bit := 1
	for i := range from.NumField() {
		name := from.Type().Field(i).Name
		if name == "Kind" || name == "At" {
			continue
		}
		if choice&bit != 0 {
			to.Field(i).Set(from.Field(i))
			has[name] = true
		}
		bit <<= 1
	}
	return out, has
}

// fits tells whether all that is needed is there, and nothing that is neither needed nor taken.
func fits(has map[string]bool, needs, takes string) bool {
	for _, name := range strings.Fields(needs) {
		if !has[name] {
			return false
		}
	}
	for name := range has {
		if !slices.Contains(strings.Fields(needs+" "+takes), name) {
			return false
		}
	}
	return true
}

func valueFits(kind int, has map[string]bool) bool {
	switch kind {
	case api.ValueOper, api.ValueNot:
		return fits(has, "A", "")
	case api.ValueRef, api.ValueMut:
		return fits(has, "Place", "")
	case api.ValueOp:
		return fits(has, "Op A B", "")
	case api.ValueCall:
		return fits(has, "Name", "Args")
	case api.ValueMake:
		return fits(has, "Name", "Names Args") && has["Names"] == has["Args"]
	}
	return false
}

// valuePlaces are crates with a value in each place where any one may stand.
func valuePlaces(v api.Value) map[string]api.Crate {
	return map[string]api.Crate{
		"set":    inBody(set(v)),
		"let":    inBody(api.Stmt{Kind: api.StmtLet, Name: "a", Type: number(), Has: true, Value: v}),
		"return": inBody(block(api.Stmt{Kind: api.StmtReturn, Has: true, Value: v})),
	}
}

func TestValues(t *testing.T) {
	sample := api.Value{A: operInt(1), B: operBool(1), Op: api.OpAdd, Place: place("x"), Name: "S", Names: []string{"f"}, Args: []api.Oper{operPlace("y")}}
	for _, kind := range kinds(api.ValueMake) {
		for choice := range 1 << 7 {
			v, has := chosen(sample, choice)
			v.Kind = kind
			want := valueFits(kind, has)
			for what, c := range valuePlaces(v) {
				may(t, fmt.Sprintf("%s: %+v", what, v), c, want)
			}
			may(t, fmt.Sprintf("a statement: %+v", v), inBody(api.Stmt{Kind: api.StmtCall, Value: v}), want && kind == api.ValueCall)
		}
	}
}

func TestValuesWithAPieceTooMuch(t *testing.T) {
	for _, v := range []api.Value{
		{Kind: api.ValueOper, A: operInt(1), B: api.Oper{N: 1}},
		{Kind: api.ValueOper, A: operInt(1), B: api.Oper{Place: place("x")}},
		{Kind: api.ValueNot, A: operInt(1), B: api.Oper{Place: api.Place{Path: []string{"f"}}}},
		{Kind: api.ValueRef, Place: place("x"), A: api.Oper{N: -1}},
		{Kind: api.ValueMut, Place: place("x"), Op: -1},
		{Kind: api.ValueCall, Name: "g", Place: api.Place{Path: []string{"*"}}},
		{Kind: api.ValueCall, Name: "g", Names: []string{""}},
		{Kind: api.ValueOper, A: operInt(1), Args: []api.Oper{{}}},
	} {
		for what, c := range valuePlaces(v) {
			may(t, fmt.Sprintf("%s: %+v", what, v), c, false)
		}
	}
}

func TestOperations(t *testing.T) {
	for _, op := range kinds(api.OpSame) {
		v := api.Value{Kind: api.ValueOp, Op: op, A: operInt(1), B: operInt(1)}
		may(t, fmt.Sprint("operation ", op), inBody(set(v)), op >= 1 && op <= 4)
	}
}

func TestMadeStructsHaveAsManyArgs(t *testing.T) {
	for names := range 4 {
		for args := range 4 {
			v := api.Value{Kind: api.ValueMake, Name: "S", Names: slices.Repeat([]string{"f"}, names), Args: slices.Repeat([]api.Oper{operInt(0)}, args)}
			may(t, fmt.Sprint(names, " names and ", args, " arguments"), inBody(set(v)), names == args)
		}
	}
}

func stmtFits(kind int, has map[string]bool) bool {
	value, other := "", ""
	if has["Has"] {
		value, other = " Has Value", " Has Else"
	}
	switch kind {
	case api.StmtLet:
		return fits(has, "Name Type"+value, "Mut")
	case api.StmtSet:
		return fits(has, "Place Value", "")
	case api.StmtCall:
		return fits(has, "Value", "")
	case api.StmtIf:
		return fits(has, "Cond", "Then"+other)
	case api.StmtWhile:
		return fits(has, "Cond", "Then")
	case api.StmtLoop, api.StmtBlock:
		return fits(has, "", "Then")
	case api.StmtBreak, api.StmtContinue:
		return fits(has, "", "")
	case api.StmtReturn:
		return fits(has, value, "")
	case api.StmtDrop:
		return fits(has, "Place", "")
	}
	return false
}

// within are crates with a statement in each kind of block, beside others.
func within(s api.Stmt) map[string]api.Crate {
	l := []api.Stmt{let("b"), s, {Kind: api.StmtBreak}}
	return map[string]api.Crate{
		"a body":          inBody(l...),
		"a later body":    {Structs: []api.Struct{{Name: "S"}}, Funcs: []api.Func{{Name: "f"}, {Name: "g", Body: l}, {Name: "h"}}},
		"a block":         inBody(block(block(l...))),
		"a loop":          inBody(let("c"), api.Stmt{Kind: api.StmtLoop, Then: l}),
		"a while":         inBody(api.Stmt{Kind: api.StmtWhile, Cond: operBool(1), Then: l}),
		"an if":           inBody(api.Stmt{Kind: api.StmtIf, Cond: operBool(1), Then: l}),
		"an if with else": inBody(api.Stmt{Kind: api.StmtIf, Cond: operBool(1), Then: l, Has: true}),
		"an else":         inBody(api.Stmt{Kind: api.StmtIf, Cond: operBool(1), Has: true, Else: l}),
	}
}

func TestStatements(t *testing.T) {
	sample := api.Stmt{Mut: true, Name: "a", Type: number(), Has: true, Place: place("x"), Value: call("g"), Cond: operBool(1), Then: []api.Stmt{{Kind: api.StmtBreak}}, Else: []api.Stmt{{Kind: api.StmtContinue}}}
	for _, kind := range kinds(api.StmtDrop) {
		for choice := range 1 << 9 {
			s, has := chosen(sample, choice)
			s.Kind = kind
			want := stmtFits(kind, has)
			for where, c := range within(s) {
				if tree.May(c) != want {
					t.Errorf("within %s: %+v: May is not %v", where, s, want)
				}
			}
		}
	}
}

func TestStatementsWithAPieceTooMuch(t *testing.T) {
	whole := api.Stmt{Kind: api.StmtBreak}
	for what, change := range map[string]func(s *api.Stmt){
		"Mut":         func(s *api.Stmt) { s.Mut = true },
		"a name":      func(s *api.Stmt) { s.Name = "*" },
		"a type":      func(s *api.Stmt) { s.Type.Lives = []string{"a"} },
		"Elem":        func(s *api.Stmt) { s.Type.Elem = []api.Type{{}} },
		"Has":         func(s *api.Stmt) { s.Has = true },
		"a path":      func(s *api.Stmt) { s.Place.Path = []string{"*"} },
		"a value's":   func(s *api.Stmt) { s.Value.B.Place.Path = []string{"*"} },
		"value's N":   func(s *api.Stmt) { s.Value.A.N = 1 },
		"a condition": func(s *api.Stmt) { s.Cond.N = 1 },
		"a block":     func(s *api.Stmt) { s.Then = []api.Stmt{{}} },
		"an else":     func(s *api.Stmt) { s.Else = []api.Stmt{{}} },
	} {
		s := whole
		change(&s)
		may(t, "break with "+what, inBody(s), false)
		s.Kind = api.StmtReturn
		may(t, "return with "+what, inBody(s), false)
	}
	may(t, "break", inBody(whole), true)
}

// Blocks.

// blockKinds put a block into a statement, in each way that there is.
func blockKinds() map[string]func(l []api.Stmt) api.Stmt {
	return map[string]func(l []api.Stmt) api.Stmt{
		"block": func(l []api.Stmt) api.Stmt { return api.Stmt{Kind: api.StmtBlock, Then: l} },
		"loop":  func(l []api.Stmt) api.Stmt { return api.Stmt{Kind: api.StmtLoop, Then: l} },
		"while": func(l []api.Stmt) api.Stmt { return api.Stmt{Kind: api.StmtWhile, Cond: operBool(0), Then: l} },
		"if":    func(l []api.Stmt) api.Stmt { return api.Stmt{Kind: api.StmtIf, Cond: operBool(0), Then: l} },
		"else":  func(l []api.Stmt) api.Stmt { return api.Stmt{Kind: api.StmtIf, Cond: operBool(0), Has: true, Else: l} },
	}
}

func TestBlocksWithinOneAnother(t *testing.T) {
	for what, put := range blockKinds() {
		for last, wrap := range blockKinds() {
			for _, inmost := range [][]api.Stmt{nil, {{Kind: api.StmtBreak}}} {
				// The body is a block, and so is the inmost one, though it may be empty.
				l := []api.Stmt{wrap(inmost)}
				for depth := 2; depth <= api.MaxDepth+2; depth++ {
					may(t, fmt.Sprint(what, " and ", last, " ", depth, " deep"), inBody(l...), depth <= api.MaxDepth)
					l = []api.Stmt{let("a"), put(l), {Kind: api.StmtBreak}}
				}
			}
		}
	}
}

func TestStatementsOfAFunction(t *testing.T) {
	one := api.Stmt{Kind: api.StmtBreak}
	many := func(n int) []api.Stmt { return slices.Repeat([]api.Stmt{one}, n) }
	for n := api.MaxStmts - 1; n <= api.MaxStmts+2; n++ {
		want := n <= api.MaxStmts
		may(t, fmt.Sprint(n, " in a body"), inBody(many(n)...), want)
		for what, put := range blockKinds() {
			may(t, fmt.Sprint(n, " with those in ", what), inBody(put(many(n-1))), want)
			may(t, fmt.Sprint(n, " around ", what), inBody(append(many(n-5), put([]api.Stmt{one, put(many(2))}))...), want)
			may(t, fmt.Sprint(n, " ahead in ", what), inBody(put(many(n-2)), one), want)
		}
		fork := api.Stmt{Kind: api.StmtIf, Cond: operBool(1), Has: true, Then: many(1000), Else: many(n - 1001)}
		may(t, fmt.Sprint(n, " with those in then and else"), inBody(fork), want)
	}
	f := api.Func{Name: "f", Body: many(api.MaxStmts)}
	may(t, "two functions", api.Crate{Funcs: []api.Func{f, f}}, true)
	f.Body = many(api.MaxStmts + 1)
	may(t, "a second function with too many", api.Crate{Funcs: []api.Func{{Name: "f"}, f}}, false)
}

func TestWrongItemsAmongOthers(t *testing.T) {
	for _, at := range []int{0, 1, 2} {
		c := api.Crate{Structs: slices.Repeat([]api.Struct{{Name: "S"}}, 3), Funcs: slices.Repeat([]api.Func{{Name: "f"}}, 3)}
		may(t, "right items", c, true)
		c.Structs[at].Name = "1"
		may(t, fmt.Sprint("a wrong struct at ", at), c, false)
		c.Structs[at].Name = "S"
		c.Funcs[at].Name = "1"
		may(t, fmt.Sprint("a wrong function at ", at), c, false)
	}
}

// What is within itself, or within too many, is told soon.
func TestMayEndsSoon(t *testing.T) {
	l := []api.Stmt{block(), block()}
	for range 62 {
		l = []api.Stmt{block(l...), block(l...)}
	}
	if tree.May(inBody(l...)) {
		t.Error("2^64 statements may be")
	}
	ring := []api.Type{{Kind: api.KindRef}}
	ring[0].Elem = ring
	if tree.May(withResult(ring[0])) {
		t.Error("a type that refers to itself may be")
	}
	loop := []api.Stmt{{Kind: api.StmtLoop}}
	loop[0].Then = loop
	if tree.May(inBody(loop...)) {
		t.Error("a loop within itself may be")
	}
}
