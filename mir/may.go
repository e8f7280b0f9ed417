package mir

import "usufruct/api"

const maxRegions = 1 << 20

// ends are the numbers that all numbers within a function have to be below.
type ends struct {
	free, regions, locals, points int
}

func all[T any](l []T, may func(x *T) bool) bool {
	for i := range l {
		if !may(&l[i]) {
			return false
		}
	}
	return true
}

func mayCount(n int) bool { return 1 <= n && n <= api.MaxPoints }

func below(n, end int) bool { return 0 <= n && n < end }

func (e *ends) mayKnown(pair *[2]int) bool { return below(pair[0], e.free) && below(pair[1], e.free) }

func (e *ends) mayRegion(n *int) bool { return below(*n, e.regions) }

func (e *ends) mayPoint(n *int) bool { return below(*n, e.points) }

func (e *ends) mayPath(p *api.Path) bool { return below(p.Local, e.locals) }

func (e *ends) mayLocal(l *api.Local) bool { return e.mayType(&l.Type) }

// mayType goes no deeper than may be, so that it ends soon however much is within.
func (e *ends) mayType(t *api.RType) bool {
	for range api.MaxDepth {
		if !all(t.Regions, e.mayRegion) {
			return false
		}
		switch t.Kind {
		case api.KindUnit, api.KindInt, api.KindBool, api.KindStruct:
			return len(t.Elem) == 0
		case api.KindRef, api.KindMut:
			if len(t.Regions) != 1 || len(t.Elem) != 1 {
				return false
			}
			t = &t.Elem[0]
		default:
			return false
		}
	}
	return false
}

func (e *ends) mayInst(i *api.Inst) bool {
	ok, nexts := true, 1
	switch i.Kind {
	case api.InstSet:
		ok = e.mayValue(&i.Value)
		if !i.Has {
			break
		}
		fallthrough
	case api.InstDead, api.InstDrop:
		ok = ok && e.mayPath(&i.To)
	case api.InstIf:
		ok, nexts = e.mayOper(&i.Value.A), 2
	case api.InstGo:
	case api.InstEnd:
		nexts = 0
	default:
		return false
	}
	return ok && len(i.Next) == nexts && all(i.Next, e.mayPoint)
}

func (e *ends) mayValue(v *api.MValue) bool {
	ok := true
	switch v.Kind {
	case api.ValueOp:
		ok = e.mayOper(&v.B)
		fallthrough
	case api.ValueOper, api.ValueNot:
		return ok && e.mayOper(&v.A)
	case api.ValueRef, api.ValueMut:
		return e.mayPath(&v.Path) && e.mayRegion(&v.Region)
	case api.ValueCall, api.ValueMake:
		return all(v.Args, e.mayOper) && all(v.Regions, e.mayRegion)
	}
	return false
}

func (e *ends) mayOper(o *api.MOper) bool {
	switch o.Kind {
	case api.MInt, api.MBool:
		return true
	case api.MCopy, api.MMove:
		return e.mayPath(&o.Path)
	}
	return false
}
