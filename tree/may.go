package tree

import (
	"strings"

	"usufruct/api"
	"usufruct/lex"
)

const (
	nameJoin  = "::"
	stepInto  = "*"
	bodyDepth = 1
)

func all[T any](l []T, may func(x T) bool) bool {
	for _, x := range l {
		if !may(x) {
			return false
		}
	}
	return true
}

func parts[T any](l []T, may func(x T) bool) bool {
	return len(l) <= api.MaxParts && all(l, may)
}

// take asks a field that a Kind names, and blanks it: what is left of the copy behind all of them has to be zero.
func take[T any](field *T, may func(x T) bool) bool {
	var zero T
	ok := may(*field)
	*field = zero
	return ok
}

func mayStruct(s api.Struct) bool {
	return lex.Name(s.Name) && parts(s.Lives, mayLifeName) && parts(s.Fields, mayField)
}

func mayFunc(f api.Func) bool {
	b := body{left: api.MaxStmts}
	return lex.Name(f.Name) && parts(f.Lives, mayLife) && parts(f.Params, mayParam) &&
		mayResult(f.Result) && b.mayBlock(f.Body, bodyDepth)
}

func mayLifeName(s string) bool { return lex.Name(s) || lex.Word(s) }

func mayLife(l api.Life) bool { return mayLifeName(l.Name) && parts(l.Over, mayLifeName) }

func mayField(f api.Field) bool { return !f.Mut && mayParam(f) }

func mayParam(f api.Field) bool { return lex.Name(f.Name) && mayType(f.Type) }

// mayFarName asks for what may be of another crate: a name, or two.
func mayFarName(s string) bool {
	crate, name, far := strings.Cut(s, nameJoin)
	return lex.Name(crate) && (!far || lex.Name(name))
}

func mayResult(t api.Type) bool {
	if t.Kind == api.KindUnit {
		return SameType(t, api.Type{})
	}
	return mayType(t)
}

func mayType(t api.Type) bool {
	for range api.MaxDepth {
		switch t.Kind {
		case api.KindInt, api.KindBool:
			return SameType(t, api.Type{Kind: t.Kind})
		case api.KindStruct:
			return mayFarName(t.Name) && parts(t.Lives, mayLifeName) && len(t.Elem) == 0
		case api.KindRef, api.KindMut:
			if t.Name != "" || len(t.Lives) > 1 || !all(t.Lives, mayLifeName) || len(t.Elem) != 1 {
				return false
			}
			t = t.Elem[0]
		default:
			return false
		}
	}
	return false
}

// body is a function's body on the way through it; left is how many statements it may still have.
type body struct {
	left int
}

// mayBlock asks how many and how deep ahead of going in, so that it ends soon however much is within.
func (b *body) mayBlock(l []api.Stmt, depth int) bool {
	if depth > api.MaxDepth || len(l) > b.left {
		return false
	}
	b.left -= len(l)
	return all(l, func(s api.Stmt) bool { return b.mayStmt(s, depth) })
}

func (b *body) mayStmt(s api.Stmt, depth int) bool {
	within := func(l []api.Stmt) bool { return b.mayBlock(l, depth+1) }
	ok := true
	switch s.Kind {
	case api.StmtLet:
		ok = take(&s.Name, lex.Name) && take(&s.Type, mayType) && mayHave(&s, &s.Value, mayValue)
		s.Mut = false
	case api.StmtSet:
		ok = take(&s.Place, mayPlace) && take(&s.Value, mayValue)
	case api.StmtCall:
		ok = take(&s.Value, mayCall)
	case api.StmtIf:
		ok = mayHave(&s, &s.Else, within)
		fallthrough
	case api.StmtWhile:
		ok = ok && take(&s.Cond, mayOper)
		fallthrough
	case api.StmtLoop, api.StmtBlock:
		ok = ok && take(&s.Then, within)
	case api.StmtBreak, api.StmtContinue:
	case api.StmtReturn:
		ok = mayHave(&s, &s.Value, mayValue)
	case api.StmtDrop:
		ok = take(&s.Place, mayPlace)
	default:
		return false
	}
	return ok && sameStmt(&s, &api.Stmt{Kind: s.Kind, At: s.At})
}

// mayHave asks what a statement has if it says so. One that does not keeps the field, which is refused then unless it is zero.
func mayHave[T any](s *api.Stmt, field *T, may func(x T) bool) bool {
	has := s.Has
	s.Has = false
	return !has || take(field, may)
}

func mayCall(v api.Value) bool { return v.Kind == api.ValueCall && mayValue(v) }

func mayValue(v api.Value) bool {
	ok := true
	switch v.Kind {
	case api.ValueOp:
		ok = take(&v.Op, mayOp) && take(&v.B, mayOper)
		fallthrough
	case api.ValueOper, api.ValueNot:
		ok = ok && take(&v.A, mayOper)
	case api.ValueRef, api.ValueMut:
		ok = take(&v.Place, mayPlace)
	case api.ValueMake:
		ok = len(v.Names) == len(v.Args) && parts(v.Names, lex.Name)
		v.Names = nil
		fallthrough
	case api.ValueCall:
		ok = ok && take(&v.Name, mayFarName) && parts(v.Args, mayOper)
		v.Args = nil
	default:
		return false
	}
	return ok && sameValue(&v, &api.Value{Kind: v.Kind})
}

func mayOp(op int) bool { return api.OpAdd <= op && op <= api.OpSame }

func mayOper(o api.Oper) bool {
	switch o.Kind {
	case api.OperInt:
		return 0 <= o.N && o.N <= api.MaxInt && samePlace(&o.Place, &api.Place{})
	case api.OperBool:
		return (o.N == 0 || o.N == 1) && samePlace(&o.Place, &api.Place{})
	case api.OperPlace:
		return o.N == 0 && mayPlace(o.Place)
	}
	return false
}

func mayPlace(p api.Place) bool { return lex.Name(p.Name) && parts(p.Path, mayStep) }

func mayStep(s string) bool { return s == stepInto || lex.Name(s) }
