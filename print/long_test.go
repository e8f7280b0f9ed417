package print_test

import (
	"strings"
	"testing"

	"usufruct/api"
	"usufruct/fault"
	"usufruct/print"
)

// dropOf is a statement whose line has so many bytes, with its tab and its end; at least leastDrop, at most mostDrop.
func dropOf(size int) api.Stmt {
	left := size - (leastDrop - 1)
	var names []string
	for left > api.MaxName {
		// One byte is kept for the name behind, and one for the sign between.
		n := min(api.MaxName, left-2)
		names = append(names, strings.Repeat("n", n))
		left -= n + 1
	}
	names = append(names, strings.Repeat("n", left))
	return api.Stmt{Kind: api.StmtDrop, Place: place(names[0], names[1:]...)}
}

const (
	leastDrop = len("\tdrop n;\n")
	mostDrop  = leastDrop - 1 + api.MaxName + api.MaxParts*(1+api.MaxName)
)

// sized is a function, f, of a text of so many bytes.
func sized(size int) api.Func {
	f := api.Func{Name: "f"}
	left := size - len("fn f() {\n}\n")
	for left > mostDrop {
		n := min(mostDrop, left-leastDrop)
		f.Body = append(f.Body, dropOf(n))
		left -= n
	}
	f.Body = append(f.Body, dropOf(left))
	return f
}

// bigStruct has a text of some thousand bytes, and bigHead is a function whose head has.
func bigStruct() api.Struct {
	return api.Struct{Name: "S", Fields: bigFields()}
}

func bigHead() api.Func { return api.Func{Name: "f", Params: bigFields()} }

func bigFields() []api.Field {
	name := strings.Repeat("n", api.MaxName)
	l := make([]api.Field, api.MaxParts)
	for i := range l {
		l[i] = api.Field{Name: name, Type: named(name+"::"+name, name, name)}
	}
	return l
}

func longAt(t *testing.T, what string, most, over api.Crate) {
	t.Helper()
	if s := printed(t, most); len(s) != api.MaxText {
		t.Errorf("%s: %d bytes", what, len(s))
	}
	refused(t, what, over, api.ErrLong)
}

func TestLongest(t *testing.T) {
	for _, n := range []int{leastDrop, leastDrop + 31, leastDrop + 32, leastDrop + 33, leastDrop + 64, leastDrop + 65, leastDrop + 66, mostDrop} {
		if s := printed(t, inBody(dropOf(n))); len(s) != len("fn f() {\n}\n")+n {
			t.Fatalf("a line of %d bytes: %d", n, len(s))
		}
	}
	of := func(size int) api.Crate { return api.Crate{Funcs: []api.Func{sized(size)}} }
	longAt(t, "a body", of(api.MaxText), of(api.MaxText+1))
	for more := range 50 {
		refused(t, "a body", of(api.MaxText+1+more), api.ErrLong)
		if s := printed(t, of(api.MaxText-more)); len(s) != api.MaxText-more {
			t.Errorf("%d less: %d bytes", more, len(s))
		}
	}
}

func TestLongestOfMany(t *testing.T) {
	c := api.Crate{Structs: []api.Struct{bigStruct(), bigStruct(), {Name: "S"}}, Funcs: []api.Func{bigHead(), bigHead(), sized(1000)}}
	used := len(printed(t, c))
	with := func(size int) api.Crate {
		return api.Crate{Structs: c.Structs, Funcs: append([]api.Func{sized(size)}, c.Funcs...)}
	}
	longAt(t, "many items", with(api.MaxText-used), with(api.MaxText-used+1))
	// One byte more in each of the items, not in the last one alone.
	for i := range c.Structs {
		over := with(api.MaxText - used)
		over.Structs = append([]api.Struct(nil), over.Structs...)
		over.Structs[i].Name = "SS"
		refused(t, "a struct", over, api.ErrLong)
	}
	for i := range c.Funcs {
		over := with(api.MaxText - used)
		over.Funcs[i+1].Name = "ff"
		refused(t, "a function", over, api.ErrLong)
	}
}

func TestLongStructsAlone(t *testing.T) {
	s := bigStruct()
	size := len(printed(t, api.Crate{Structs: []api.Struct{s}}))
	var most []api.Struct
	for (len(most)+1)*size <= api.MaxText {
		most = append(most, s)
	}
	if got := len(printed(t, api.Crate{Structs: most})); got != len(most)*size {
		t.Errorf("%d bytes of %d structs", got, len(most))
	}
	refused(t, "structs", api.Crate{Structs: append(most, s)}, api.ErrLong)
	for len(most) < api.MaxItems {
		most = append(most, s)
	}
	refused(t, "many structs", api.Crate{Structs: most}, api.ErrLong)
}

func TestLongHeadsAlone(t *testing.T) {
	var c api.Crate
	for len(c.Funcs) < api.MaxItems {
		c.Funcs = append(c.Funcs, bigHead())
	}
	refused(t, "many heads", c, api.ErrLong)
}

// Lists that share their members stand for much more than there is room for.
func TestFarTooLong(t *testing.T) {
	path := strings.Split(strings.Repeat("n", api.MaxParts), "")
	args := make([]api.Oper, api.MaxParts)
	for i := range args {
		args[i] = operPlace("n", path...)
	}
	body := make([]api.Stmt, api.MaxStmts)
	for i := range body {
		body[i] = api.Stmt{Kind: api.StmtCall, Value: call("g", args...)}
	}
	c := inBody(body...)
	c.Funcs = append(c.Funcs, c.Funcs[0])
	refused(t, "far too long", c, api.ErrLong)
}

// What may not be is told ahead of what is too long.
func TestArgAheadOfLong(t *testing.T) {
	c := api.Crate{Funcs: []api.Func{sized(api.MaxText + 1), {Name: "g"}}}
	refused(t, "too long", c, api.ErrLong)
	c.Funcs[1].Name = ""
	refused(t, "too long, and without a name", c, api.ErrArg)
	c.Funcs[1].Name = strings.Repeat("n", api.MaxText+1)
	refused(t, "a name that is too long", c, api.ErrArg)
}

func TestSameAgain(t *testing.T) {
	for _, c := range []api.Crate{full(), {Structs: []api.Struct{{}}}, {Funcs: []api.Func{sized(api.MaxText + 1)}}} {
		first, err := print.Crate(c)
		second, again := print.Crate(c)
		if first != second || fault.Code(err) != fault.Code(again) || fault.At(err) != fault.At(again) {
			t.Error("the same crate has another answer")
		}
	}
}
