package sig_test

import (
	"encoding/binary"
	"regexp"
	"slices"

	"usufruct/api"
	"usufruct/tree"
)

// The same calls, told in other ways: the bytes by a list of pieces, Get by a reading that takes more than it may and writes it again.

var namePattern = regexp.MustCompile(`^[A-Za-z_][A-Za-z0-9_]{0,31}$`)

var words = []string{"fn", "struct", "pub", "let", "mut", "if", "else", "while", "loop", "break", "continue", "return", "drop", "true", "false", "int", "bool"}

func wantName(s string) bool { return namePattern.MatchString(s) && !slices.Contains(words, s) }

func wantOf(name string, c api.Crate) api.Sig {
	c = clone(c)
	s := api.Sig{Name: name}
	for i := range c.Structs {
		if c.Structs[i].At = 0; c.Structs[i].Pub {
			s.Structs = append(s.Structs, c.Structs[i])
		}
	}
	for i := range c.Funcs {
		c.Funcs[i].At, c.Funcs[i].Body = 0, nil
		if c.Funcs[i].Pub {
			s.Funcs = append(s.Funcs, c.Funcs[i])
		}
	}
	return s
}

// wantMay says that a sig may be if its crate may be and it is the sig of that crate.
func wantMay(s api.Sig) bool {
	c := api.Crate{Structs: s.Structs, Funcs: s.Funcs}
	return wantName(s.Name) && alike(wantOf(s.Name, c), s) && tree.May(c)
}

// pieces are bytes, and where the numbers among them stand.
type pieces struct {
	bytes   []byte
	numbers []int
}

func (p *pieces) number(n int) {
	p.numbers = append(p.numbers, len(p.bytes))
	p.bytes = binary.AppendUvarint(p.bytes, uint64(n))
}

func (p *pieces) text(s string) {
	p.number(len(s))
	p.bytes = append(p.bytes, s...)
}

func (p *pieces) texts(l []string) {
	p.number(len(l))
	for _, s := range l {
		p.text(s)
	}
}

func (p *pieces) typeOf(t api.Type) {
	p.number(t.Kind)
	switch t.Kind {
	case api.KindStruct:
		p.text(t.Name)
		p.texts(t.Lives)
	case api.KindRef, api.KindMut:
		p.texts(t.Lives)
		p.typeOf(t.Elem[0])
	}
}

// wantPut does not ask whether a sig may be.
func wantPut(s api.Sig) *pieces {
	p := &pieces{}
	p.text("USIG")
	p.text(s.Name)
	p.number(len(s.Structs))
	for _, x := range s.Structs {
		p.text(x.Name)
		p.texts(x.Lives)
		p.number(len(x.Fields))
		for _, f := range x.Fields {
			p.text(f.Name)
			p.typeOf(f.Type)
		}
	}
	p.number(len(s.Funcs))
	for _, x := range s.Funcs {
		p.text(x.Name)
		p.number(len(x.Lives))
		for _, l := range x.Lives {
			p.text(l.Name)
			p.texts(l.Over)
		}
		p.number(len(x.Params))
		for _, f := range x.Params {
			p.bytes = append(p.bytes, map[bool]byte{true: 1}[f.Mut])
			p.text(f.Name)
			p.typeOf(f.Type)
		}
		p.typeOf(x.Result)
	}
	return p
}

// eater eats bytes; it panics with an ending where they can be no sig's.
type eater []byte

type ending struct{}

func (e *eater) number() int {
	v, n := binary.Uvarint(*e)
	if n <= 0 || v > 1<<20 {
		panic(ending{})
	}
	*e = (*e)[n:]
	return int(v)
}

func (e *eater) text() string {
	n := e.number()
	if n > len(*e) {
		panic(ending{})
	}
	s := string((*e)[:n])
	*e = (*e)[n:]
	return s
}

func eaten[T any](e *eater, one func() T) []T {
	var l []T
	for range e.number() {
		l = append(l, one())
	}
	return l
}

func (e *eater) texts() []string { return eaten(e, e.text) }

func (e *eater) typeOf() api.Type {
	switch kind := e.number(); kind {
	case api.KindStruct:
		name := e.text()
		return api.Type{Kind: kind, Name: name, Lives: e.texts()}
	case api.KindRef, api.KindMut:
		lives := e.texts()
		return api.Type{Kind: kind, Lives: lives, Elem: []api.Type{e.typeOf()}}
	default:
		return api.Type{Kind: kind}
	}
}

func (e *eater) field() api.Field {
	name := e.text()
	return api.Field{Name: name, Type: e.typeOf()}
}

func (e *eater) param() api.Field {
	mut := e.number() == 1
	f := e.field()
	f.Mut = mut
	return f
}

func (e *eater) life() api.Life {
	name := e.text()
	return api.Life{Name: name, Over: e.texts()}
}

func (e *eater) structOf() api.Struct {
	s := api.Struct{Pub: true, Name: e.text()}
	s.Lives = e.texts()
	s.Fields = eaten(e, e.field)
	return s
}

func (e *eater) funcOf() api.Func {
	f := api.Func{Pub: true, Name: e.text()}
	f.Lives = eaten(e, e.life)
	f.Params = eaten(e, e.param)
	f.Result = e.typeOf()
	return f
}

// wantGet takes any bytes that begin with such a sig, and asks then whether just these are its bytes.
func wantGet(b []byte) (s api.Sig, may bool) {
	defer func() {
		if r := recover(); r != nil {
			if _, ok := r.(ending); !ok {
				panic(r)
			}
			s, may = api.Sig{}, false
		}
	}()
	e := eater(b)
	e.text()
	s.Name = e.text()
	s.Structs = eaten(&e, e.structOf)
	s.Funcs = eaten(&e, e.funcOf)
	if !wantMay(s) || !slices.Equal(wantPut(s).bytes, b) {
		return api.Sig{}, false
	}
	return s, true
}
