package scope

import (
	"errors"
	"strings"

	"usufruct/api"
)

// header is what the types within an item are asked by.
type header struct {
	pub      bool
	lives    []string
	outlives func(a, b string) bool
}

func (s *Scope) askStruct(x api.Struct) api.Errno {
	if _, is := s.structs[x.Name]; is {
		return api.ErrTwice
	}
	above := set{}
	for _, life := range x.Lives {
		if !above.add(life) {
			return api.ErrTwice
		}
	}
	return s.askFields(x.Fields, header{pub: x.Pub, lives: x.Lives, outlives: isSame})
}

func (s *Scope) askFunc(f api.Func) api.Errno {
	_, isStruct := s.structs[f.Name]
	_, isFunc := s.funcs[f.Name]
	if isStruct || isFunc {
		return api.ErrTwice
	}
	if code := askLives(f.Lives); code != api.OK {
		return code
	}
	h := header{pub: f.Pub, lives: lifeNames(f.Lives), outlives: newOrder(f.Lives).outlives}
	if code := s.askFields(f.Params, h); code != api.OK {
		return code
	}
	if f.Result.Kind == api.KindUnit {
		return api.OK
	}
	return s.askType(f.Result, h)
}

func askLives(l []api.Life) api.Errno {
	all := setOf(lifeNames(l))
	above := set{}
	for _, life := range l {
		if !above.add(life.Name) {
			return api.ErrTwice
		}
		if !all.hasAll(life.Over) {
			return api.ErrLife
		}
	}
	return api.OK
}

func (s *Scope) askFields(l []api.Field, h header) api.Errno {
	above := set{}
	for _, f := range l {
		if !above.add(f.Name) {
			return api.ErrTwice
		}
		if code := s.askType(f.Type, h); code != api.OK {
			return code
		}
	}
	return api.OK
}

func (s *Scope) askType(t api.Type, h header) api.Errno {
	if code := codeOf(s.Type(t, h.lives, false)); code != api.OK {
		return code
	}
	if !isWell(t, h.outlives) {
		return api.ErrLife
	}
	if h.pub && !s.isShown(t) {
		return api.ErrName
	}
	return api.OK
}

// codeOf leaves the place out: Type knows no item's.
func codeOf(err error) api.Errno {
	var f *api.Fault
	if errors.As(err, &f) {
		return f.Code
	}
	return api.OK
}

// isShown takes types without a fault. The struct of a dependency is not shown, as it has another name elsewhere.
func (s *Scope) isShown(t api.Type) bool {
	for refers(t.Kind) {
		t = t.Elem[0]
	}
	if t.Kind != api.KindStruct {
		return true
	}
	return !strings.Contains(t.Name, nameJoin) && s.structs[t.Name].Pub
}

func (s *Scope) typeCode(t api.Type, lives set, open bool) api.Errno {
	for refers(t.Kind) {
		if len(t.Lives) == 0 && !open || !lives.hasAll(t.Lives) {
			return api.ErrLife
		}
		if len(t.Elem) == 0 {
			return api.ErrType
		}
		t = t.Elem[0]
	}
	switch t.Kind {
	case api.KindInt, api.KindBool:
		return api.OK
	case api.KindStruct:
		return s.structCode(t, lives, open)
	}
	return api.ErrType
}

func (s *Scope) structCode(t api.Type, lives set, open bool) api.Errno {
	x, is := s.findStruct(t.Name)
	if !is {
		return api.ErrName
	}
	leftOut := open && len(t.Lives) == 0
	if len(t.Lives) != len(x.Lives) && !leftOut {
		return api.ErrArgs
	}
	if !lives.hasAll(t.Lives) {
		return api.ErrLife
	}
	return api.OK
}

func refers(kind int) bool { return kind == api.KindRef || kind == api.KindMut }
