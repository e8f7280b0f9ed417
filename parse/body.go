package parse

import (
	"strconv"

	"usufruct/api"
)

func (p *parser) block() []api.Stmt {
	if p.depth == api.MaxDepth {
		p.fail(api.ErrDeep)
		return nil
	}
	p.needs("{")
	p.depth++
	var body []api.Stmt
	for p.err == nil && !p.takes("}") {
		body = append(body, p.stmt())
	}
	p.depth--
	return body
}

// stmt counts ahead of what the statement is, so that one too many is told whatever it begins with.
func (p *parser) stmt() api.Stmt {
	s := api.Stmt{At: p.next().At}
	if p.stmts == api.MaxStmts {
		p.fail(api.ErrLong)
		return s
	}
	p.stmts++
	switch {
	case p.takes("if"):
		p.branch(&s)
	case p.takes("while"):
		s.Kind = api.StmtWhile
		s.Cond = p.oper()
		s.Then = p.block()
	case p.takes("loop"):
		s.Kind = api.StmtLoop
		s.Then = p.block()
	case p.sees("{"):
		s.Kind = api.StmtBlock
		s.Then = p.block()
	default:
		p.plain(&s)
		p.needs(";")
	}
	return s
}

func (p *parser) branch(s *api.Stmt) {
	s.Kind = api.StmtIf
	s.Cond = p.oper()
	s.Then = p.block()
	s.Has = p.takes("else")
	if s.Has {
		s.Else = p.block()
	}
}

// plain reads a statement without a block, up to its semicolon.
func (p *parser) plain(s *api.Stmt) {
	switch {
	case p.takes("let"):
		p.let(s)
	case p.takes("break"):
		s.Kind = api.StmtBreak
	case p.takes("continue"):
		s.Kind = api.StmtContinue
	case p.takes("return"):
		s.Kind = api.StmtReturn
		s.Has = !p.sees(";")
		if s.Has {
			s.Value = p.value()
		}
	case p.takes("drop"):
		s.Kind = api.StmtDrop
		s.Place = p.place()
	default:
		p.setOrCall(s)
	}
}

func (p *parser) let(s *api.Stmt) {
	s.Kind = api.StmtLet
	s.Mut = p.takes("mut")
	s.Name = p.name()
	p.needs(":")
	s.Type = p.typeAt(1)
	s.Has = p.takes("=")
	if s.Has {
		s.Value = p.value()
	}
}

// setOrCall tells the two apart by what stands behind the first name.
func (p *parser) setOrCall(s *api.Stmt) {
	first := p.name()
	if p.sees("::") || p.sees("(") {
		s.Kind = api.StmtCall
		s.Value = p.call(p.farName(first))
		return
	}
	s.Kind = api.StmtSet
	s.Place = p.placeFrom(first)
	p.needs("=")
	s.Value = p.value()
}

func (p *parser) value() api.Value {
	switch {
	case p.takes("&"):
		return p.reference()
	case p.takes("!"):
		return api.Value{Kind: api.ValueNot, A: p.oper()}
	case p.next().Kind == api.TokName:
		return p.namedValue()
	}
	return p.operation(p.oper())
}

func (p *parser) reference() api.Value {
	v := api.Value{Kind: api.ValueRef}
	if p.takes("mut") {
		v.Kind = api.ValueMut
	}
	v.Place = p.place()
	return v
}

// namedValue reads a value that begins with a name: what stands behind it tells which one it is.
func (p *parser) namedValue() api.Value {
	first := p.name()
	whole := p.farName(first)
	switch {
	case p.sees("("):
		return p.call(whole)
	case p.sees("{"), whole != first:
		return p.makes(whole)
	}
	return p.operation(api.Oper{Kind: api.OperPlace, Place: p.placeFrom(first)})
}

func (p *parser) call(name string) api.Value {
	v := api.Value{Kind: api.ValueCall, Name: name}
	v.Args = enclosed(p, "(", ")", p.oper)
	return v
}

func (p *parser) makes(name string) api.Value {
	v := api.Value{Kind: api.ValueMake, Name: name}
	v.Args = enclosed(p, "{", "}", func() api.Oper {
		v.Names = append(v.Names, p.name())
		p.needs(":")
		return p.oper()
	})
	return v
}

// operation reads what may stand behind an operand.
func (p *parser) operation(a api.Oper) api.Value {
	op := p.operator()
	if op == 0 {
		return api.Value{Kind: api.ValueOper, A: a}
	}
	return api.Value{Kind: api.ValueOp, Op: op, A: a, B: p.oper()}
}

// operator is 0 if there is none.
func (p *parser) operator() int {
	switch {
	case p.takes("+"):
		return api.OpAdd
	case p.takes("-"):
		return api.OpSub
	case p.takes("<"):
		return api.OpLess
	case p.takes("=="):
		return api.OpSame
	}
	return 0
}

func (p *parser) oper() api.Oper {
	switch {
	case p.next().Kind == api.TokInt:
		return api.Oper{Kind: api.OperInt, N: p.number()}
	case p.takes("true"):
		return api.Oper{Kind: api.OperBool, N: 1}
	case p.takes("false"):
		return api.Oper{Kind: api.OperBool}
	}
	return api.Oper{Kind: api.OperPlace, Place: p.place()}
}

func (p *parser) number() int {
	// No error can come of it: layer 6 lets no number above MaxInt through.
	n, _ := strconv.Atoi(p.text(api.TokInt))
	return n
}

func (p *parser) place() api.Place { return p.placeFrom(p.name()) }

func (p *parser) placeFrom(name string) api.Place {
	x := api.Place{Name: name}
	if p.takes(".") {
		x.Path = list(p, ".", p.step)
	}
	return x
}

func (p *parser) step() string {
	if p.takes("*") {
		return "*"
	}
	return p.name()
}
