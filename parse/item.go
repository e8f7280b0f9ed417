package parse

import (
	"usufruct/api"
	"usufruct/fault"
)

func (p *parser) crate() api.Crate {
	var c api.Crate
	for !p.atEnd() {
		if len(c.Structs)+len(c.Funcs) == api.MaxItems {
			p.fail(api.ErrLong)
			break
		}
		p.item(&c)
	}
	return c
}

func (p *parser) item(c *api.Crate) {
	pub := p.takes("pub")
	at := p.next().At
	switch {
	case p.takes("struct"):
		s := p.structure()
		s.Pub, s.At = pub, at
		c.Structs = append(c.Structs, s)
	case p.takes("fn"):
		f := p.function()
		f.Pub, f.At = pub, at
		c.Funcs = append(c.Funcs, f)
	default:
		// Ahead of its word there is no item yet that the error could be in.
		p.fail(api.ErrSyntax)
		return
	}
	p.err = fault.In(p.err, at)
}

func (p *parser) structure() api.Struct {
	var s api.Struct
	s.Name = p.name()
	s.Lives = angled(p, p.life)
	s.Fields = enclosed(p, "{", "}", p.field)
	return s
}

func (p *parser) function() api.Func {
	var f api.Func
	f.Name = p.name()
	f.Lives = angled(p, p.lifeOver)
	f.Params = enclosed(p, "(", ")", func() api.Field {
		mut := p.takes("mut")
		param := p.field()
		param.Mut = mut
		return param
	})
	if p.takes("->") {
		f.Result = p.typeAt(1)
	}
	p.stmts = 0
	f.Body = p.block()
	return f
}

func (p *parser) lifeOver() api.Life {
	l := api.Life{Name: p.life()}
	if p.takes(":") {
		l.Over = list(p, "+", p.life)
	}
	return l
}

func (p *parser) field() api.Field {
	var f api.Field
	f.Name = p.name()
	p.needs(":")
	f.Type = p.typeAt(1)
	return f
}

func (p *parser) typeAt(depth int) api.Type {
	if depth > api.MaxDepth {
		p.fail(api.ErrDeep)
		return api.Type{}
	}
	switch {
	case p.takes("int"):
		return api.Type{Kind: api.KindInt}
	case p.takes("bool"):
		return api.Type{Kind: api.KindBool}
	case p.takes("&"):
		return p.referenceAt(depth)
	}
	t := api.Type{Kind: api.KindStruct}
	t.Name = p.farName(p.name())
	t.Lives = angled(p, p.life)
	return t
}

func (p *parser) referenceAt(depth int) api.Type {
	t := api.Type{Kind: api.KindRef}
	if p.next().Kind == api.TokLife {
		t.Lives = []string{p.life()}
	}
	if p.takes("mut") {
		t.Kind = api.KindMut
	}
	t.Elem = []api.Type{p.typeAt(depth + 1)}
	return t
}

// farName is the whole of a name that may be of another crate, of which the first name is read.
func (p *parser) farName(first string) string {
	if !p.takes("::") {
		return first
	}
	return first + "::" + p.name()
}
