package mir_test

import (
	"fmt"
	"slices"
	"strings"

	"usufruct/api"
)

// The same calls, told in other ways: paths as texts whose steps end in a byte that no step has, and what may be as a list of all numbers that are asked, each with its range.

// ended is a path's steps as one text; no step of the tests has the byte 0.
func ended(p api.Path) string {
	s := ""
	if len(p.Steps) > 0 {
		s = strings.Join(p.Steps, "\x00") + "\x00"
	}
	return s
}

func wantPrefix(a, b api.Path) bool {
	return a.Local == b.Local && strings.HasPrefix(ended(b), ended(a))
}

func wantShallow(a, b api.Path) bool {
	return wantPrefix(a, b) && !strings.Contains("\x00"+ended(b)[len(ended(a)):], "\x00*\x00")
}

func wantLess(a, b api.Path) bool {
	return a.Local < b.Local || a.Local == b.Local && ended(a) < ended(b)
}

func wantText(p api.Path) string {
	return strings.Join(append([]string{fmt.Sprint(p.Local)}, p.Steps...), ".")
}

// asked are numbers that are asked, each with what it has to be at least, and what it has to be below.
type asked struct {
	regions, locals, points int
	claims                  [][3]int
}

func (a *asked) add(n, from, end int) { a.claims = append(a.claims, [3]int{n, from, end}) }

func wantMay(m api.Mir) bool {
	a := asked{regions: m.Regions, locals: len(m.Locals), points: len(m.Code)}
	a.add(m.Free, 0, m.Regions+1)
	a.add(m.Regions, 0, 1<<20+1)
	a.add(a.locals, 1, 6001)
	a.add(a.points, 1, 6001)
	for _, pair := range m.Known {
		a.add(pair[0], 0, m.Free)
		a.add(pair[1], 0, m.Free)
	}
	for _, l := range m.Locals {
		a.typeOf(l.Type, 1)
	}
	for _, i := range m.Code {
		a.inst(i)
	}
	return !slices.ContainsFunc(a.claims, func(c [3]int) bool { return c[0] < c[1] || c[0] >= c[2] })
}

func (a *asked) typeOf(t api.RType, deep int) {
	a.add(t.Kind, 0, 6)
	a.add(deep, 1, 65)
	for _, n := range t.Regions {
		a.add(n, 0, a.regions)
	}
	elems := 0
	if t.Kind == api.KindRef || t.Kind == api.KindMut {
		elems = 1
		a.add(len(t.Regions), 1, 2)
	}
	a.add(len(t.Elem), elems, elems+1)
	for _, x := range t.Elem {
		a.typeOf(x, deep+1)
	}
}

// What each Kind of instruction and of value has: t is To, v the value, a and b operands, l all operands, p the Path, r the Region, n the Regions.
var (
	instHas  = map[int]string{api.InstSet: "tv", api.InstDead: "t", api.InstDrop: "t", api.InstIf: "a"}
	valueHas = map[int]string{
		api.ValueOper: "a", api.ValueNot: "a", api.ValueOp: "ab", api.ValueRef: "pr", api.ValueMut: "pr", api.ValueCall: "nl", api.ValueMake: "nl",
	}
	nexts = map[int]int{api.InstSet: 1, api.InstDead: 1, api.InstDrop: 1, api.InstIf: 2, api.InstGo: 1}
)

func (a *asked) inst(i api.Inst) {
	a.add(i.Kind, 1, 7)
	a.add(len(i.Next), nexts[i.Kind], nexts[i.Kind]+1)
	for _, n := range i.Next {
		a.add(n, 0, a.points)
	}
	has := instHas[i.Kind]
	if strings.Contains(has, "t") && (i.Kind != api.InstSet || i.Has) {
		a.add(i.To.Local, 0, a.locals)
	}
	if strings.Contains(has, "v") {
		a.add(i.Value.Kind, 1, 8)
		has = valueHas[i.Value.Kind]
	}
	a.value(i.Value, has)
}

func (a *asked) value(v api.MValue, has string) {
	for _, part := range has {
		switch part {
		case 'a':
			a.oper(v.A)
		case 'b':
			a.oper(v.B)
		case 'l':
			for _, o := range v.Args {
				a.oper(o)
			}
		case 'p':
			a.add(v.Path.Local, 0, a.locals)
		case 'r':
			a.add(v.Region, 0, a.regions)
		case 'n':
			for _, n := range v.Regions {
				a.add(n, 0, a.regions)
			}
		}
	}
}

func (a *asked) oper(o api.MOper) {
	a.add(o.Kind, 1, 5)
	if o.Kind == api.MCopy || o.Kind == api.MMove {
		a.add(o.Path.Local, 0, a.locals)
	}
}
