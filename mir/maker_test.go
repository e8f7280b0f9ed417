package mir_test

import (
	"math/rand"
	"reflect"
	"slices"

	"usufruct/api"
)

// maker makes functions that may be, and paths, by chance.
type maker struct {
	r *rand.Rand
}

func newMaker(seed int64) *maker { return &maker{r: rand.New(rand.NewSource(seed))} }

// rare is true once in n.
func (m *maker) rare(n int) bool { return m.r.Intn(n) == 0 }

func (m *maker) pick(of ...string) string { return of[m.r.Intn(len(of))] }

func (m *maker) below(n int) func(int) int { return func(int) int { return m.r.Intn(n) } }

func (m *maker) step(int) string { return m.pick("*", "*", "f", "f", "g", "ff", "fg", "f1", "", "z") }

func (m *maker) path() api.Path {
	return path(m.r.Intn(4)-1, times(m.r.Intn(6), m.step)...)
}

// likely is the same path, or one that begins it or goes on behind it, or differs in one thing.
func (m *maker) likely(p api.Path) api.Path {
	p = clone(p)
	switch cut := m.r.Intn(len(p.Steps) + 1); m.r.Intn(5) {
	case 0:
		p.Steps = p.Steps[:cut]
	case 1:
		p.Steps = append(p.Steps, times(1+m.r.Intn(3), m.step)...)
	case 2:
		p.Local = m.r.Intn(4) - 1
	case 3:
		p.Steps = slices.Insert(p.Steps, cut, m.step(0))
	}
	return p
}

// mir is a function that may be.
func (m *maker) mir() api.Mir {
	x := api.Mir{At: m.r.Intn(100), Regions: 1 + m.r.Intn(8)}
	x.Free = m.r.Intn(x.Regions + 1)
	if x.Free > 0 {
		x.Known = times(m.r.Intn(3), func(int) [2]int { return [2]int{m.r.Intn(x.Free), m.r.Intn(x.Free)} })
	}
	locals, points := 1+m.r.Intn(4), 1+m.r.Intn(6)
	x.Locals = times(locals, func(int) api.Local {
		return api.Local{Name: m.pick("", "x", "y"), Type: m.typeOf(x.Regions, 4), Param: m.rare(2)}
	})
	x.Code = times(points, func(int) api.Inst { return m.inst(x.Regions, locals, points) })
	return x
}

func (m *maker) typeOf(regions, deep int) api.RType {
	t := api.RType{Kind: m.r.Intn(6)}
	switch {
	case t.Kind == api.KindStruct:
		t.Name = m.pick("S", "d::T")
		t.Regions = times(m.r.Intn(3), m.below(regions))
	case t.Kind >= api.KindRef && deep == 1:
		return rInt()
	case t.Kind >= api.KindRef:
		t = rTo(t.Kind, m.typeOf(regions, deep-1), m.r.Intn(regions))
	}
	return t
}

func (m *maker) inst(regions, locals, points int) api.Inst {
	at := func() api.Path { return path(m.r.Intn(locals), times(m.r.Intn(3), m.step)...) }
	i := api.Inst{Kind: 1 + m.r.Intn(6), At: m.r.Intn(100)}
	if m.rare(3) {
		i.Kind = api.InstSet
	}
	switch i.Kind {
	case api.InstSet:
		i.Value = m.value(regions, at)
		if i.Has = !m.rare(4); i.Has {
			i.To = at()
		}
	case api.InstDead, api.InstDrop:
		i.To = at()
	case api.InstIf:
		i.Value.A = m.oper(at)
	}
	i.Next = times(nexts[i.Kind], m.below(points))
	return i
}

func (m *maker) value(regions int, at func() api.Path) api.MValue {
	v := api.MValue{Kind: 1 + m.r.Intn(7)}
	switch v.Kind {
	case api.ValueOper, api.ValueNot:
		v.A = m.oper(at)
	case api.ValueOp:
		v.Op, v.A, v.B = 1+m.r.Intn(4), m.oper(at), m.oper(at)
	case api.ValueRef, api.ValueMut:
		v.Path, v.Region = at(), m.r.Intn(regions)
	case api.ValueCall, api.ValueMake:
		v.Name, v.Regions = m.pick("g", "d::S"), times(m.r.Intn(3), m.below(regions))
		v.Args = times(m.r.Intn(3), func(int) api.MOper { return m.oper(at) })
	}
	return v
}

func (m *maker) oper(at func() api.Path) api.MOper {
	o := api.MOper{Kind: 1 + m.r.Intn(4)}
	switch o.Kind {
	case api.MCopy, api.MMove:
		o.Path = at()
	default:
		o.N = m.r.Intn(2)
	}
	return o
}

// spoil changes one thing somewhere: about half of the functions that it is given may not be behind it.
func (m *maker) spoil(x api.Mir) api.Mir {
	l := spots(x, reflect.Int, reflect.Bool, reflect.String, reflect.Slice)
	return with(x, l[m.r.Intn(len(l))], m.turn)
}

func (m *maker) turn(v reflect.Value) {
	switch v.Kind() {
	case reflect.Int:
		v.SetInt(int64(m.r.Intn(12) - 2))
	case reflect.Bool:
		v.SetBool(!v.Bool())
	case reflect.String:
		v.SetString(m.pick("", "x", "*", "q"))
	case reflect.Slice:
		if v.Len() > 0 && m.rare(2) {
			v.Set(v.Slice(0, m.r.Intn(v.Len())))
			return
		}
		one := reflect.New(v.Type().Elem()).Elem()
		if v.Len() > 0 && m.rare(2) {
			one = cloned(v.Index(m.r.Intn(v.Len())), false)
		}
		v.Set(reflect.Append(v, one))
	}
}
