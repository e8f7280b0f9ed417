package scope_test

import (
	"regexp"
	"slices"
	"strings"

	"usufruct/api"
	"usufruct/sig"
	"usufruct/tree"
)

// The same calls, told in other ways: names are looked for in lists, what outlives what is a table of facts that follow from each other, and all faults of an item are listed, of which the first counts.

var namePattern = regexp.MustCompile(`^[A-Za-z_][A-Za-z0-9_]{0,31}$`)

var words = []string{"fn", "struct", "pub", "let", "mut", "if", "else", "while", "loop", "break", "continue", "return", "drop", "true", "false", "int", "bool"}

func wantName(s string) bool { return namePattern.MatchString(s) && !slices.Contains(words, s) }

// want is what there is: of the crate's own the items of c.
type want struct {
	deps []api.Sig
	c    api.Crate
}

func (w want) structOf(name string) (api.Struct, bool) {
	crate, _, far := strings.Cut(name, "::")
	if !far {
		for _, x := range w.c.Structs {
			if x.Name == name {
				return x, true
			}
		}
		return api.Struct{}, false
	}
	for _, d := range w.deps {
		for _, x := range d.Structs {
			if d.Name == crate && crate+"::"+x.Name == name {
				x.Name = name
				x.Fields = farFields(crate, x.Fields)
				return x, true
			}
		}
	}
	return api.Struct{}, false
}

func (w want) funcOf(name string) (api.Func, bool) {
	crate, _, far := strings.Cut(name, "::")
	if !far {
		for _, f := range w.c.Funcs {
			if f.Name == name {
				return f, true
			}
		}
		return api.Func{}, false
	}
	for _, d := range w.deps {
		for _, f := range d.Funcs {
			if d.Name == crate && crate+"::"+f.Name == name {
				f.Name = name
				f.Params = farFields(crate, f.Params)
				f.Result = farType(crate, f.Result)
				return f, true
			}
		}
	}
	return api.Func{}, false
}

func farFields(crate string, l []api.Field) []api.Field {
	l = slices.Clone(l)
	for i, f := range l {
		l[i].Type = farType(crate, f.Type)
	}
	return l
}

func farType(crate string, t api.Type) api.Type {
	switch t.Kind {
	case api.KindStruct:
		t.Name = crate + "::" + t.Name
	case api.KindRef, api.KindMut:
		t.Elem = []api.Type{farType(crate, t.Elem[0])}
	}
	return t
}

type pair [2]string

// wantOver makes facts until there are no more.
func wantOver(f api.Func) map[pair]bool {
	facts := map[pair]bool{}
	for _, l := range f.Lives {
		facts[pair{l.Name, l.Name}] = true
	}
	for more := true; more; {
		more = false
		for _, l := range f.Lives {
			for _, over := range l.Over {
				for _, b := range f.Lives {
					fact := pair{l.Name, b.Name}
					if facts[pair{over, b.Name}] && !facts[fact] {
						facts[fact], more = true, true
					}
				}
			}
		}
	}
	return facts
}

func (w want) typeCode(t api.Type, lives []string, open bool) api.Errno {
	return firstOf(w.typeFaults(t, lives, open))
}

func firstOf(l []api.Errno) api.Errno {
	for _, code := range l {
		if code != api.OK {
			return code
		}
	}
	return api.OK
}

func when(is bool, code api.Errno) api.Errno {
	if is {
		return code
	}
	return api.OK
}

func anyOther(l, of []string) bool {
	return slices.ContainsFunc(l, func(s string) bool { return !slices.Contains(of, s) })
}

// typeFaults lists what is wrong in the order of the chapter, outside first.
func (w want) typeFaults(t api.Type, lives []string, open bool) []api.Errno {
	switch t.Kind {
	case api.KindInt, api.KindBool:
		return nil
	case api.KindStruct:
		x, is := w.structOf(t.Name)
		leftOut := open && len(t.Lives) == 0
		return []api.Errno{
			when(!is, api.ErrName),
			when(len(t.Lives) != len(x.Lives) && !leftOut, api.ErrArgs),
			when(anyOther(t.Lives, lives), api.ErrLife),
		}
	case api.KindRef, api.KindMut:
		faults := []api.Errno{
			when(len(t.Lives) == 0 && !open, api.ErrLife),
			when(anyOther(t.Lives, lives), api.ErrLife),
			when(len(t.Elem) == 0, api.ErrType),
		}
		for _, to := range t.Elem[:min(1, len(t.Elem))] {
			faults = append(faults, w.typeFaults(to, lives, open)...)
		}
		return faults
	}
	return []api.Errno{api.ErrType}
}

// livesIn are all lifetimes that stand within a type.
func livesIn(t api.Type) []string {
	l := slices.Clone(t.Lives)
	for _, to := range t.Elem {
		l = append(l, livesIn(to)...)
	}
	return l
}

// wantWell holds each reference against all lifetimes within it, however deep.
func wantWell(t api.Type, outlives map[pair]bool) bool {
	for _, to := range t.Elem {
		for _, q := range livesIn(to) {
			if len(t.Lives) > 0 && !outlives[pair{q, t.Lives[0]}] {
				return false
			}
		}
		if !wantWell(to, outlives) {
			return false
		}
	}
	return true
}

// shown tells whether the struct that a type names is the crate's own, and Pub.
func (w want) shown(t api.Type) bool {
	for _, to := range t.Elem {
		return w.shown(to)
	}
	if t.Kind != api.KindStruct {
		return true
	}
	return slices.ContainsFunc(w.c.Structs, func(x api.Struct) bool { return x.Pub && x.Name == t.Name })
}

func (w want) headerFaults(t api.Type, lives []string, outlives map[pair]bool, pub bool) []api.Errno {
	return append(w.typeFaults(t, lives, false),
		when(!wantWell(t, outlives), api.ErrLife),
		when(pub && !w.shown(t), api.ErrName))
}

// fieldFaults is of fields and of parameters.
func (w want) fieldFaults(l []api.Field, lives []string, outlives map[pair]bool, pub bool) []api.Errno {
	var faults []api.Errno
	for i, f := range l {
		above := slices.ContainsFunc(l[:i], func(x api.Field) bool { return x.Name == f.Name })
		faults = append(faults, when(above, api.ErrTwice))
		faults = append(faults, w.headerFaults(f.Type, lives, outlives, pub)...)
	}
	return faults
}

// structFaults are those of the first struct below what there is.
func (w want) structFaults(x api.Struct) []api.Errno {
	_, above := w.structOf(x.Name)
	faults := []api.Errno{when(above, api.ErrTwice)}
	itself := map[pair]bool{}
	for i, a := range x.Lives {
		faults = append(faults, when(slices.Contains(x.Lives[:i], a), api.ErrTwice))
		itself[pair{a, a}] = true
	}
	return append(faults, w.fieldFaults(x.Fields, x.Lives, itself, x.Pub)...)
}

func (w want) funcFaults(f api.Func) []api.Errno {
	_, isStruct := w.structOf(f.Name)
	_, isFunc := w.funcOf(f.Name)
	faults := []api.Errno{when(isStruct || isFunc, api.ErrTwice)}
	var lives []string
	for _, l := range f.Lives {
		lives = append(lives, l.Name)
	}
	for i, l := range f.Lives {
		faults = append(faults, when(slices.Contains(lives[:i], l.Name), api.ErrTwice))
		faults = append(faults, when(anyOther(l.Over, lives), api.ErrLife))
	}
	outlives := wantOver(f)
	faults = append(faults, w.fieldFaults(f.Params, lives, outlives, f.Pub)...)
	if f.Result.Kind != api.KindUnit {
		faults = append(faults, w.headerFaults(f.Result, lives, outlives, f.Pub)...)
	}
	return faults
}

func wantMay(name string, deps []api.Sig, c api.Crate) bool {
	names := []string{name}
	for _, d := range deps {
		if !sig.May(d) || slices.Contains(names, d.Name) {
			return false
		}
		names = append(names, d.Name)
	}
	return wantName(name) && tree.May(c)
}

func wantNew(name string, deps []api.Sig, c api.Crate) (api.Errno, int) {
	if !wantMay(name, deps, c) {
		return api.ErrArg, 0
	}
	w := want{deps: deps}
	for _, x := range c.Structs {
		if code := firstOf(w.structFaults(x)); code != api.OK {
			return code, x.At
		}
		w.c.Structs = append(w.c.Structs, x)
	}
	for _, f := range c.Funcs {
		if code := firstOf(w.funcFaults(f)); code != api.OK {
			return code, f.At
		}
		w.c.Funcs = append(w.c.Funcs, f)
	}
	return api.OK, 0
}
