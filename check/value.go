package check

import (
	"slices"

	"usufruct/api"
	"usufruct/fault"
	"usufruct/types"
)

// stepInto is the step to what a reference refers to; all others are names of fields.
const stepInto = "*"

// spot is what a local's name, or a place, leads to.
type spot struct {
	typ    api.RType
	mut    bool // may it be changed?
	behind bool // was a reference gone through?
	shared bool // was a shared one?
}

func number() api.RType { return api.RType{Kind: api.KindInt} }

func boolean() api.RType { return api.RType{Kind: api.KindBool} }

// refTo has a number, as each lifted reference has one.
func refTo(kind int, t api.RType) api.RType {
	return api.RType{Kind: kind, Regions: []int{0}, Elem: []api.RType{t}}
}

func isRef(t api.RType) bool {
	return (t.Kind == api.KindRef || t.Kind == api.KindMut) && len(t.Elem) > 0
}

func (c *checker) place(p *api.Place) spot {
	x, is := c.locals[p.Name]
	c.need(is, api.ErrName)
	for i := range p.Path {
		x = c.step(x, p.Path[i:i+1])
	}
	return x
}

// step does not ask types.At for what a reference refers to, as that copies all of it at every step.
func (c *checker) step(x spot, one []string) spot {
	if one[0] == stepInto && isRef(x.typ) {
		x.behind = true
		x.shared = x.shared || x.typ.Kind == api.KindRef
		x.mut = !x.shared
		x.typ = x.typ.Elem[0]
		return x
	}
	typ, err := types.At(c.scope, x.typ, one)
	c.need(err == nil, fault.Code(err))
	x.typ = typ
	return x
}

func (c *checker) oper(o *api.Oper) api.RType {
	switch o.Kind {
	case api.OperInt:
		return number()
	case api.OperBool:
		return boolean()
	case api.OperPlace:
		p := c.place(&o.Place)
		c.need(types.Copy(p.typ) || !p.behind, api.ErrBehind)
		return p.typ
	}
	return api.RType{}
}

// needValue asks for a value of that type.
func (c *checker) needValue(v *api.Value, typ api.RType) {
	t, gives := c.value(v)
	c.need(gives, api.ErrType)
	c.needSame(t, typ)
}

// value tells a value's type, and whether it is one: a call without a result is none.
func (c *checker) value(v *api.Value) (api.RType, bool) {
	switch v.Kind {
	case api.ValueOper:
		return c.oper(&v.A), true
	case api.ValueRef:
		return refTo(api.KindRef, c.place(&v.Place).typ), true
	case api.ValueMut:
		p := c.place(&v.Place)
		c.need(p.mut, api.ErrMut)
		return refTo(api.KindMut, p.typ), true
	case api.ValueNot:
		c.needSame(c.oper(&v.A), boolean())
		return boolean(), true
	case api.ValueOp:
		return c.operation(v), true
	case api.ValueCall:
		f, is := c.callOf(v.Name)
		c.need(is, api.ErrName)
		return c.fill(v, f)
	case api.ValueMake:
		s, is := c.makeOf(v.Name)
		c.need(is, api.ErrName)
		c.need(slices.Equal(v.Names, s.names), api.ErrArgs)
		return c.fill(v, s)
	}
	return api.RType{}, false
}

func (c *checker) operation(v *api.Value) api.RType {
	a, b := c.oper(&v.A), c.oper(&v.B)
	numbers := types.Same(a, number()) && types.Same(b, number())
	booleans := types.Same(a, boolean()) && types.Same(b, boolean())
	switch v.Op {
	case api.OpAdd, api.OpSub:
		c.need(numbers, api.ErrType)
		return number()
	case api.OpLess:
		c.need(numbers, api.ErrType)
	case api.OpSame:
		c.need(numbers || booleans, api.ErrType)
	default:
		c.giveUp(api.ErrType)
	}
	return boolean()
}

func (c *checker) fill(v *api.Value, x shape) (api.RType, bool) {
	c.need(len(v.Args) == len(x.asks), api.ErrArgs)
	for i := range v.Args {
		c.needSame(c.oper(&v.Args[i]), x.asks[i])
	}
	return x.answer, x.gives
}
