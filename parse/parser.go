package parse

import (
	"usufruct/api"
	"usufruct/fault"
)

// parser goes through the tokens of a text. It keeps the first error, and has nothing but the text's end left from then on: whoever is under way finds nothing more to read, and comes to an end without asking for the error at every step.
type parser struct {
	left  []api.Token // never empty: the text's end is not read
	err   error
	depth int // blocks that are open
	stmts int // statements of the function so far
}

func (p *parser) next() api.Token { return p.left[0] }

func (p *parser) atEnd() bool { return p.next().Kind == api.TokEnd }

func (p *parser) fail(code api.Errno) {
	if p.err != nil {
		return
	}
	p.err = fault.New(code, p.next().At)
	p.left = p.left[len(p.left)-1:]
}

// sees asks for a word or a sign. The Text alone would not do: that of a lifetime may be a word, too.
func (p *parser) sees(mark string) bool {
	t := p.next()
	return (t.Kind == api.TokWord || t.Kind == api.TokSign) && t.Text == mark
}

func (p *parser) takes(mark string) bool {
	if !p.sees(mark) {
		return false
	}
	p.left = p.left[1:]
	return true
}

func (p *parser) needs(mark string) {
	if !p.takes(mark) {
		p.fail(api.ErrSyntax)
	}
}

func (p *parser) text(kind int) string {
	t := p.next()
	if t.Kind != kind {
		p.fail(api.ErrSyntax)
		return ""
	}
	p.left = p.left[1:]
	return t.Text
}

func (p *parser) name() string { return p.text(api.TokName) }

func (p *parser) life() string { return p.text(api.TokLife) }

// list reads one member or more. It counts ahead of a member, as one too many is told ahead of what is wrong with its first token.
func list[T any](p *parser, between string, member func() T) []T {
	var members []T
	for {
		if len(members) == api.MaxParts {
			p.fail(api.ErrLong)
			return members
		}
		members = append(members, member())
		if !p.takes(between) {
			return members
		}
	}
}

// enclosed reads a list that may be empty, and the two signs around it.
func enclosed[T any](p *parser, begin, end string, member func() T) []T {
	p.needs(begin)
	if p.takes(end) {
		return nil
	}
	members := list(p, ",", member)
	p.needs(end)
	return members
}

// angled reads a list that is either left out with its signs, or not empty.
func angled[T any](p *parser, member func() T) []T {
	if !p.takes("<") {
		return nil
	}
	members := list(p, ",", member)
	p.needs(">")
	return members
}
