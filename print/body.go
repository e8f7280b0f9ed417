package print

import (
	"strconv"

	"usufruct/api"
)

func (w *writer) block(l []api.Stmt) {
	w.put("{")
	w.open++
	w.upToMost(len(l), func(i int) {
		w.newLine()
		w.stmt(&l[i])
	})
	w.open--
	w.newLine()
	w.put("}")
}

// stmt falls through where a kind is written as another one is, with something ahead of it.
func (w *writer) stmt(s *api.Stmt) {
	switch s.Kind {
	case api.StmtLet:
		w.let(s)
	case api.StmtSet:
		w.place(&s.Place)
		w.put(" = ")
		fallthrough
	case api.StmtCall:
		w.value(&s.Value)
		w.put(";")
	case api.StmtIf:
		w.branch("if ", s)
		if s.Has {
			w.put(" else ")
			w.block(s.Else)
		}
	case api.StmtWhile:
		w.branch("while ", s)
	case api.StmtLoop:
		w.put("loop ")
		fallthrough
	case api.StmtBlock:
		w.block(s.Then)
	case api.StmtBreak:
		w.put("break;")
	case api.StmtContinue:
		w.put("continue;")
	case api.StmtReturn:
		w.put("return")
		w.valueIfAny(" ", s)
	case api.StmtDrop:
		w.put("drop ")
		w.place(&s.Place)
		w.put(";")
	}
}

func (w *writer) let(s *api.Stmt) {
	w.put("let ")
	w.putIf(s.Mut, "mut ")
	w.put(s.Name, ": ")
	w.typeOf(&s.Type)
	w.valueIfAny(" = ", s)
}

// valueIfAny writes the end of a statement that may be without a value.
func (w *writer) valueIfAny(before string, s *api.Stmt) {
	if s.Has {
		w.put(before)
		w.value(&s.Value)
	}
	w.put(";")
}

func (w *writer) branch(word string, s *api.Stmt) {
	w.put(word)
	w.oper(&s.Cond)
	w.put(" ")
	w.block(s.Then)
}

func (w *writer) value(v *api.Value) {
	switch v.Kind {
	case api.ValueRef:
		w.put("&")
		w.place(&v.Place)
	case api.ValueMut:
		w.put("&mut ")
		w.place(&v.Place)
	case api.ValueNot:
		w.put("!")
		fallthrough
	case api.ValueOper:
		w.oper(&v.A)
	case api.ValueOp:
		w.oper(&v.A)
		w.put(" ", sign(v.Op), " ")
		w.oper(&v.B)
	case api.ValueCall:
		w.put(v.Name)
		w.rounded(len(v.Args), func(i int) { w.oper(&v.Args[i]) })
	case api.ValueMake:
		w.put(v.Name, " ")
		w.braced(len(v.Names), func(i int) {
			w.put(v.Names[i], ": ")
			w.oper(&v.Args[i])
		})
	}
}

func sign(op int) string {
	switch op {
	case api.OpAdd:
		return "+"
	case api.OpSub:
		return "-"
	case api.OpLess:
		return "<"
	}
	return "=="
}

func (w *writer) oper(o *api.Oper) {
	switch o.Kind {
	case api.OperInt:
		w.put(strconv.Itoa(o.N))
	case api.OperBool:
		w.put(strconv.FormatBool(o.N == 1))
	case api.OperPlace:
		w.place(&o.Place)
	}
}

func (w *writer) place(p *api.Place) {
	w.put(p.Name)
	for _, step := range p.Path {
		w.put(".", step)
	}
}
