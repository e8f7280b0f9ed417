package print

import "usufruct/api"

func (w *writer) crate(c *api.Crate) {
	w.upToMost(len(c.Structs), func(i int) {
		w.structure(&c.Structs[i])
		w.newLine()
	})
	w.upToMost(len(c.Funcs), func(i int) {
		w.function(&c.Funcs[i])
		w.newLine()
	})
}

func (w *writer) structure(s *api.Struct) {
	w.putIf(s.Pub, "pub ")
	w.put("struct ", s.Name)
	w.lives(s.Lives)
	w.put(" ")
	w.braced(len(s.Fields), func(i int) { w.field(&s.Fields[i]) })
}

func (w *writer) function(f *api.Func) {
	w.head(f)
	w.put(" ")
	w.block(f.Body)
}

func (w *writer) head(f *api.Func) {
	w.putIf(f.Pub, "pub ")
	w.put("fn ", f.Name)
	w.angled(len(f.Lives), func(i int) { w.lifeOver(&f.Lives[i]) })
	w.rounded(len(f.Params), func(i int) { w.field(&f.Params[i]) })
	// Of another Kind that tells nothing the arrow stays: the result is wrong, but it is there.
	if f.Result.Kind != api.KindUnit {
		w.put(" -> ")
		w.typeOf(&f.Result)
	}
}

func (w *writer) life(name string) { w.put("'", name) }

func (w *writer) lives(l []string) {
	w.angled(len(l), func(i int) { w.life(l[i]) })
}

func (w *writer) lifeOver(l *api.Life) {
	w.life(l.Name)
	w.putIf(len(l.Over) > 0, ": ")
	w.list(len(l.Over), " + ", func(i int) { w.life(l.Over[i]) })
}

// field writes parameters as well: a struct's field that may be is never Mut.
func (w *writer) field(f *api.Field) {
	w.putIf(f.Mut, "mut ")
	w.put(f.Name, ": ")
	w.typeOf(&f.Type)
}

// typeOf goes from a reference to what it refers to by a loop, as a type may be deeper than one that some text means.
func (w *writer) typeOf(t *api.Type) {
	for isReference(t) {
		w.put("&")
		if len(t.Lives) > 0 {
			w.life(t.Lives[0])
			w.put(" ")
		}
		w.putIf(t.Kind == api.KindMut, "mut ")
		t = &t.Elem[0]
	}
	switch t.Kind {
	case api.KindInt:
		w.put("int")
	case api.KindBool:
		w.put("bool")
	case api.KindStruct:
		w.put(t.Name)
		w.lives(t.Lives)
	}
}

// isReference asks for Elem, too: a reference to nothing tells nothing.
func isReference(t *api.Type) bool {
	return (t.Kind == api.KindRef || t.Kind == api.KindMut) && len(t.Elem) > 0
}
