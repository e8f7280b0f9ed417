package sig

import (
	"usufruct/api"
	"usufruct/wire"
)

// mark is what all sigs' bytes begin with.
const mark = "USIG"

// writer takes sigs that may be: it asks nothing of them.
type writer struct {
	*wire.Writer
}

func newWriter() writer { return writer{wire.NewWriter()} }

func putList[T any](w writer, l []T, put func(x T)) {
	w.Uint(uint64(len(l)))
	for _, x := range l {
		put(x)
	}
}

func (w writer) putSig(s api.Sig) {
	w.Text(mark)
	w.Text(s.Name)
	putList(w, s.Structs, w.putStruct)
	putList(w, s.Funcs, w.putFunc)
}

func (w writer) putStruct(s api.Struct) {
	w.Text(s.Name)
	putList(w, s.Lives, w.Text)
	putList(w, s.Fields, w.putField)
}

func (w writer) putFunc(f api.Func) {
	w.Text(f.Name)
	putList(w, f.Lives, w.putLife)
	putList(w, f.Params, w.putParam)
	w.putType(f.Result)
}

func (w writer) putLife(l api.Life) {
	w.Text(l.Name)
	putList(w, l.Over, w.Text)
}

func (w writer) putField(f api.Field) {
	w.Text(f.Name)
	w.putType(f.Type)
}

// putParam tells Mut, too, which no struct's field has.
func (w writer) putParam(f api.Field) {
	w.Bool(f.Mut)
	w.putField(f)
}

func (w writer) putType(t api.Type) {
	w.Uint(uint64(t.Kind))
	switch t.Kind {
	case api.KindStruct:
		w.Text(t.Name)
		fallthrough
	case api.KindRef, api.KindMut:
		putList(w, t.Lives, w.Text)
	}
	// References have just one Elem, others none: their number need not be told.
	for _, to := range t.Elem {
		w.putType(to)
	}
}
