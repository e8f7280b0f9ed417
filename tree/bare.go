package tree

import (
	"strings"

	"usufruct/api"
)

// own puts a list of its own in the place of one, and hands on its members, which share what is within them with the elder ones still. An empty list becomes nil, as a piece of the elder one would keep it.
func own[T any](l *[]T, each func(x *T)) {
	*l = append([]T(nil), *l...)
	for i := range *l {
		each(&(*l)[i])
	}
}

// ownText matters to texts that are pieces: they keep all of the text that they are of.
func ownText(s *string) { *s = strings.Clone(*s) }

func bareStruct(s *api.Struct) {
	s.At = 0
	ownText(&s.Name)
	own(&s.Lives, ownText)
	own(&s.Fields, ownField)
}

func bareFunc(f *api.Func) {
	f.At = 0
	ownText(&f.Name)
	own(&f.Lives, ownLife)
	own(&f.Params, ownField)
	ownType(&f.Result)
	own(&f.Body, bareStmt)
}

func bareStmt(s *api.Stmt) {
	s.At = 0
	ownText(&s.Name)
	ownType(&s.Type)
	ownPlace(&s.Place)
	ownValue(&s.Value)
	ownOper(&s.Cond)
	own(&s.Then, bareStmt)
	own(&s.Else, bareStmt)
}

func ownField(f *api.Field) {
	ownText(&f.Name)
	ownType(&f.Type)
}

func ownLife(l *api.Life) {
	ownText(&l.Name)
	own(&l.Over, ownText)
}

func ownType(t *api.Type) {
	ownText(&t.Name)
	own(&t.Lives, ownText)
	own(&t.Elem, ownType)
}

func ownPlace(p *api.Place) {
	ownText(&p.Name)
	own(&p.Path, ownText)
}

func ownOper(o *api.Oper) { ownPlace(&o.Place) }

func ownValue(v *api.Value) {
	ownOper(&v.A)
	ownOper(&v.B)
	ownPlace(&v.Place)
	ownText(&v.Name)
	own(&v.Names, ownText)
	own(&v.Args, ownOper)
}
