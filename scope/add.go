package scope

import (
	"usufruct/api"
	"usufruct/fault"
	"usufruct/lex"
	"usufruct/sig"
	"usufruct/tree"
)

// nameJoin stands between a dependency's name and that of an item of it, and in no name of the crate's own.
const nameJoin = "::"

func may(name string, deps []api.Sig, c api.Crate) bool {
	taken := set{}
	if !lex.Name(name) || !taken.add(name) {
		return false
	}
	for _, d := range deps {
		if !taken.add(d.Name) || !sig.May(d) {
			return false
		}
	}
	return tree.May(c)
}

// addSig takes the first of several items of one name: a sig may have these.
func (s *Scope) addSig(d api.Sig) {
	prefix := d.Name + nameJoin
	c := tree.Bare(api.Crate{Structs: d.Structs, Funcs: d.Funcs})
	for _, x := range c.Structs {
		x.Name = prefix + x.Name
		prefixFields(prefix, x.Fields)
		addFirst(s.structs, x.Name, x)
	}
	for _, f := range c.Funcs {
		f.Name = prefix + f.Name
		prefixFields(prefix, f.Params)
		prefixType(prefix, &f.Result)
		addFirst(s.funcs, f.Name, f)
	}
}

func addFirst[T any](m map[string]T, name string, x T) {
	if _, is := m[name]; !is {
		m[name] = x
	}
}

func prefixFields(prefix string, l []api.Field) {
	for i := range l {
		prefixType(prefix, &l[i].Type)
	}
}

func prefixType(prefix string, t *api.Type) {
	for refers(t.Kind) {
		t = &t.Elem[0]
	}
	if t.Kind == api.KindStruct {
		t.Name = prefix + t.Name
	}
}

// addCrate adds each item behind asking it, so that of the crate's own those above it alone are there.
func (s *Scope) addCrate(c api.Crate) error {
	for _, x := range c.Structs {
		if code := s.askStruct(x); code != api.OK {
			return fault.New(code, x.At)
		}
		s.structs[x.Name] = x
	}
	for _, f := range c.Funcs {
		if code := s.askFunc(f); code != api.OK {
			return fault.New(code, f.At)
		}
		s.funcs[f.Name] = f
	}
	return nil
}
