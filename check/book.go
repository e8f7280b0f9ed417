package check

import (
	"usufruct/api"
	"usufruct/scope"
	"usufruct/types"
)

// book keeps what functions and structs ask, as the scope copies a whole body each time that it is asked for a function.
type book struct {
	scope *scope.Scope
	calls map[string]shape
	makes map[string]shape
}

// shape is what a call or a struct's value asks, and what it is.
type shape struct {
	names  []string
	asks   []api.RType
	gives  bool
	answer api.RType
}

func newBook(s *scope.Scope) *book {
	return &book{scope: s, calls: map[string]shape{}, makes: map[string]shape{}}
}

func (b *book) callOf(name string) (shape, bool) {
	if known, is := b.calls[name]; is {
		return known, true
	}
	f, is := b.scope.Func(name)
	if !is {
		return shape{}, false
	}
	x := b.shapeOf(f.Params, f.Result)
	b.calls[name] = x
	return x, true
}

func (b *book) makeOf(name string) (shape, bool) {
	if known, is := b.makes[name]; is {
		return known, true
	}
	s, is := b.scope.Struct(name)
	if !is {
		return shape{}, false
	}
	x := b.shapeOf(s.Fields, api.Type{Kind: api.KindStruct, Name: name})
	b.makes[name] = x
	return x, true
}

func (b *book) shapeOf(l []api.Field, answer api.Type) shape {
	x := shape{gives: answer.Kind != api.KindUnit, answer: b.lifted(answer)}
	for _, f := range l {
		x.names = append(x.names, f.Name)
		x.asks = append(x.asks, b.lifted(f.Type))
	}
	return x
}

// lifted gives whatever numbers, as types are held against each other without them.
func (b *book) lifted(t api.Type) api.RType {
	out, _ := types.Lift(b.scope, t, nil, 0)
	return out
}
