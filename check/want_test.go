package check_test

import (
	"strings"

	"usufruct/api"
	"usufruct/scope"
)

// The same promises, told in another way: types are texts without lifetimes, names are looked up in a list from its end, and each question is asked of the whole tree anew.

// wantGoes asks each statement by the chapter's words.
func wantGoes(l []api.Stmt) bool {
	for _, x := range l {
		if !wantGoesOne(x) {
			return false
		}
	}
	return true
}

func wantGoesOne(x api.Stmt) bool {
	switch {
	case x.Kind == api.StmtBreak, x.Kind == api.StmtContinue, x.Kind == api.StmtReturn:
		return false
	case x.Kind == api.StmtIf && x.Has:
		return wantGoes(x.Then) || wantGoes(x.Else)
	case x.Kind == api.StmtBlock:
		return wantGoes(x.Then)
	case x.Kind == api.StmtLoop:
		return hasBreak(x.Then)
	}
	return true
}

func hasBreak(l []api.Stmt) bool {
	for _, x := range l {
		own := x.Kind == api.StmtBreak
		if x.Kind == api.StmtIf || x.Kind == api.StmtBlock {
			own = hasBreak(x.Then) || x.Kind == api.StmtIf && x.Has && hasBreak(x.Else)
		}
		if own {
			return true
		}
	}
	return false
}

// trouble is an error; a nil one is none.
type trouble struct {
	code api.Errno
	at   int
}

func refuse(code api.Errno) *trouble { return &trouble{code: code} }

// textOf is a type without lifetimes; unit is "".
func textOf(t api.Type) string {
	switch t.Kind {
	case api.KindInt:
		return "int"
	case api.KindBool:
		return "bool"
	case api.KindStruct:
		return t.Name
	case api.KindRef:
		return "&" + textOf(t.Elem[0])
	case api.KindMut:
		return "&mut " + textOf(t.Elem[0])
	}
	return ""
}

// below is what a reference's text refers to.
func below(text string) (string, bool) {
	if rest, is := strings.CutPrefix(text, "&mut "); is {
		return rest, true
	}
	return strings.CutPrefix(text, "&")
}

func copies(text string) bool {
	return text == "int" || text == "bool" || strings.HasPrefix(text, "&") && !strings.HasPrefix(text, "&mut ")
}

// known is a name that is there.
type known struct {
	name, text string
	mut        bool
}

// reader is where a body is gone through: what is there is handed on from statement to statement.
type reader struct {
	s      *scope.Scope
	f      api.Func
	looped bool
}

func wantFunc(s *scope.Scope, f api.Func) *trouble {
	var there []known
	for _, p := range f.Params {
		there = append(there, known{p.Name, textOf(p.Type), p.Mut})
	}
	if bad := (reader{s: s, f: f}).block(f.Body, there); bad != nil {
		return bad
	}
	if f.Result.Kind != api.KindUnit && wantGoes(f.Body) {
		return &trouble{api.ErrFlow, f.At}
	}
	return nil
}

func (r reader) block(l []api.Stmt, there []known) *trouble {
	for i, x := range l {
		if !wantGoes(l[:i]) {
			return &trouble{api.ErrFlow, x.At}
		}
		bad := r.own(x, there)
		if bad != nil {
			return &trouble{bad.code, x.At}
		}
		if x.Kind == api.StmtLet {
			there = append(there[:len(there):len(there)], known{x.Name, textOf(x.Type), x.Mut})
		}
		if bad := r.inner(x, there); bad != nil {
			return bad
		}
	}
	return nil
}

// inner asks the blocks of a statement.
func (r reader) inner(x api.Stmt, there []known) *trouble {
	var blocks [][]api.Stmt
	switch {
	case x.Kind == api.StmtIf && x.Has:
		blocks = [][]api.Stmt{x.Then, x.Else}
	case x.Kind == api.StmtIf, x.Kind == api.StmtBlock:
		blocks = [][]api.Stmt{x.Then}
	case x.Kind == api.StmtWhile, x.Kind == api.StmtLoop:
		r.looped = true
		blocks = [][]api.Stmt{x.Then}
	}
	for _, l := range blocks {
		if bad := r.block(l, there); bad != nil {
			return bad
		}
	}
	return nil
}

// own asks a statement without its blocks.
func (r reader) own(x api.Stmt, there []known) *trouble {
	switch x.Kind {
	case api.StmtLet:
		return r.let(x, there)
	case api.StmtSet:
		text, mut, _, bad := r.place(x.Place, there)
		if bad == nil && !mut {
			bad = refuse(api.ErrMut)
		}
		if bad != nil {
			return bad
		}
		return r.valueOf(x.Value, there, text)
	case api.StmtCall:
		_, bad := r.value(x.Value, there)
		return bad
	case api.StmtIf, api.StmtWhile:
		return r.operOf(x.Cond, there, "bool")
	case api.StmtBreak, api.StmtContinue:
		if !r.looped {
			return refuse(api.ErrFlow)
		}
	case api.StmtReturn:
		switch {
		case x.Has != (r.f.Result.Kind != api.KindUnit):
			return refuse(api.ErrType)
		case x.Has:
			return r.valueOf(x.Value, there, textOf(r.f.Result))
		}
	case api.StmtDrop:
		text, _, through, bad := r.place(x.Place, there)
		switch {
		case bad != nil:
			return bad
		case copies(text):
			return refuse(api.ErrType)
		case through:
			return refuse(api.ErrBehind)
		}
	}
	return nil
}

func (r reader) let(x api.Stmt, there []known) *trouble {
	for _, k := range there {
		if k.name == x.Name {
			return refuse(api.ErrTwice)
		}
	}
	if code := r.typeCode(x.Type); code != api.OK {
		return refuse(code)
	}
	if x.Has {
		return r.valueOf(x.Value, there, textOf(x.Type))
	}
	if !x.Mut {
		return refuse(api.ErrMut)
	}
	return nil
}

// typeCode asks a let's type: lifetimes may be left out.
func (r reader) typeCode(t api.Type) api.Errno {
	for t.Kind == api.KindRef || t.Kind == api.KindMut {
		if !r.hasLives(t.Lives) {
			return api.ErrLife
		}
		t = t.Elem[0]
	}
	if t.Kind != api.KindStruct {
		return api.OK
	}
	x, is := r.s.Struct(t.Name)
	switch {
	case !is:
		return api.ErrName
	case len(t.Lives) != 0 && len(t.Lives) != len(x.Lives):
		return api.ErrArgs
	case !r.hasLives(t.Lives):
		return api.ErrLife
	}
	return api.OK
}

func (r reader) hasLives(names []string) bool {
	for _, name := range names {
		is := false
		for _, l := range r.f.Lives {
			is = is || l.Name == name
		}
		if !is {
			return false
		}
	}
	return true
}

// place tells the type, whether it may be changed, and whether it goes through a "*".
func (r reader) place(p api.Place, there []known) (string, bool, bool, *trouble) {
	var found *known
	for i := range there {
		if there[i].name == p.Name {
			found = &there[i]
		}
	}
	if found == nil {
		return "", false, false, refuse(api.ErrName)
	}
	text, mut, through, never := found.text, found.mut, false, false
	for _, step := range p.Path {
		if step == "*" {
			inner, is := below(text)
			if !is {
				return "", false, false, refuse(api.ErrType)
			}
			never = never || !strings.HasPrefix(text, "&mut ")
			text, mut, through = inner, !never, true
			continue
		}
		field, code := r.field(text, step)
		if code != api.OK {
			return "", false, false, refuse(code)
		}
		text = field
	}
	return text, mut, through, nil
}

func (r reader) field(text, name string) (string, api.Errno) {
	x, is := r.s.Struct(text)
	if !is {
		return "", api.ErrType
	}
	for _, f := range x.Fields {
		if f.Name == name {
			return textOf(f.Type), api.OK
		}
	}
	return "", api.ErrName
}

func (r reader) oper(o api.Oper, there []known) (string, *trouble) {
	switch o.Kind {
	case api.OperInt:
		return "int", nil
	case api.OperBool:
		return "bool", nil
	}
	text, _, through, bad := r.place(o.Place, there)
	if bad == nil && through && !copies(text) {
		bad = refuse(api.ErrBehind)
	}
	return text, bad
}

func (r reader) operOf(o api.Oper, there []known, text string) *trouble {
	got, bad := r.oper(o, there)
	if bad == nil && got != text {
		bad = refuse(api.ErrType)
	}
	return bad
}

func (r reader) valueOf(v api.Value, there []known, text string) *trouble {
	got, bad := r.value(v, there)
	if bad == nil && (got == "" || got != text) {
		bad = refuse(api.ErrType)
	}
	return bad
}

// value tells a value's type; it is "" of a call without a result.
func (r reader) value(v api.Value, there []known) (string, *trouble) {
	switch v.Kind {
	case api.ValueOper:
		return r.oper(v.A, there)
	case api.ValueRef:
		text, _, _, bad := r.place(v.Place, there)
		return "&" + text, bad
	case api.ValueMut:
		text, mut, _, bad := r.place(v.Place, there)
		if bad == nil && !mut {
			bad = refuse(api.ErrMut)
		}
		return "&mut " + text, bad
	case api.ValueNot:
		return "bool", r.operOf(v.A, there, "bool")
	case api.ValueOp:
		return r.operation(v, there)
	case api.ValueCall:
		f, is := r.s.Func(v.Name)
		if !is {
			return "", refuse(api.ErrName)
		}
		return textOf(f.Result), r.args(v.Args, f.Params, there)
	}
	x, is := r.s.Struct(v.Name)
	if !is {
		return "", refuse(api.ErrName)
	}
	var names []string
	for _, f := range x.Fields {
		names = append(names, f.Name)
	}
	if strings.Join(names, ",") != strings.Join(v.Names, ",") {
		return "", refuse(api.ErrArgs)
	}
	return v.Name, r.args(v.Args, x.Fields, there)
}

func (r reader) args(l []api.Oper, asked []api.Field, there []known) *trouble {
	if len(l) != len(asked) {
		return refuse(api.ErrArgs)
	}
	for i, o := range l {
		if bad := r.operOf(o, there, textOf(asked[i].Type)); bad != nil {
			return bad
		}
	}
	return nil
}

func (r reader) operation(v api.Value, there []known) (string, *trouble) {
	a, bad := r.oper(v.A, there)
	if bad != nil {
		return "", bad
	}
	b, bad := r.oper(v.B, there)
	if bad != nil {
		return "", bad
	}
	takes := map[int]string{api.OpAdd: "int int", api.OpSub: "int int", api.OpLess: "int int", api.OpSame: "int int, bool bool"}[v.Op]
	if !strings.Contains(takes, a+" "+b) {
		return "", refuse(api.ErrType)
	}
	if v.Op == api.OpAdd || v.Op == api.OpSub {
		return "int", nil
	}
	return "bool", nil
}
