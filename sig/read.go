package sig

import (
	"usufruct/api"
	"usufruct/fault"
	"usufruct/wire"
)

// longest is how many bytes the longest text has that may stand in a sig: two names with :: between.
const longest = 2*api.MaxName + len("::")

// reader keeps the first error; all that is read behind it is zero, so that lists and types end there. The limits that it asks for keep what it makes of any bytes small; whether that may be is asked by May.
type reader struct {
	from *wire.Reader
	err  error
}

func newReader(b []byte) *reader { return &reader{from: wire.NewReader(b)} }

// whole tells whether all bytes were read without an error.
func (r *reader) whole() bool { return r.err == nil && r.from.End() == nil }

func get[T any](r *reader, read func() (T, error)) T {
	var x T
	if r.err == nil {
		x, r.err = read()
	}
	return x
}

func getList[T any](r *reader, most int, member func() T) []T {
	var l []T
	for range r.getNumber(most) {
		l = append(l, member())
	}
	return l
}

func (r *reader) getNumber(most int) int {
	return get(r, func() (int, error) { return r.from.Small(most) })
}

func (r *reader) getText() string {
	return get(r, func() (string, error) { return r.from.Text(longest) })
}

func (r *reader) getTexts() []string { return getList(r, api.MaxParts, r.getText) }

func (r *reader) getMark() {
	if r.getText() != mark {
		r.err = fault.New(api.ErrForm, 0)
	}
}

func (r *reader) getSig() api.Sig {
	r.getMark()
	var s api.Sig
	s.Name = r.getText()
	s.Structs = getList(r, api.MaxItems, r.getStruct)
	s.Funcs = getList(r, api.MaxItems, r.getFunc)
	return s
}

func (r *reader) getStruct() api.Struct {
	s := api.Struct{Pub: true}
	s.Name = r.getText()
	s.Lives = r.getTexts()
	s.Fields = getList(r, api.MaxParts, r.getField)
	return s
}

func (r *reader) getFunc() api.Func {
	f := api.Func{Pub: true}
	f.Name = r.getText()
	f.Lives = getList(r, api.MaxParts, r.getLife)
	f.Params = getList(r, api.MaxParts, r.getParam)
	f.Result = r.getType()
	return f
}

func (r *reader) getLife() api.Life {
	var l api.Life
	l.Name = r.getText()
	l.Over = r.getTexts()
	return l
}

func (r *reader) getField() api.Field {
	var f api.Field
	f.Name = r.getText()
	f.Type = r.getType()
	return f
}

func (r *reader) getParam() api.Field {
	mut := get(r, r.from.Bool)
	f := r.getField()
	f.Mut = mut
	return f
}

// getType stops within a type that is too deep, however many bytes go on with it: what it has till then is too deep as well, and may not be.
func (r *reader) getType() api.Type {
	var whole api.Type
	t := &whole
	for range api.MaxDepth {
		t.Kind = r.getNumber(api.KindMut)
		switch t.Kind {
		case api.KindStruct:
			t.Name = r.getText()
			fallthrough
		case api.KindRef, api.KindMut:
			t.Lives = r.getTexts()
		}
		if !refers(t.Kind) {
			break
		}
		t.Elem = make([]api.Type, 1)
		t = &t.Elem[0]
	}
	return whole
}

func refers(kind int) bool { return kind == api.KindRef || kind == api.KindMut }
