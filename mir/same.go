package mir

import (
	"slices"

	"usufruct/api"
)

func sameList[T any](a, b []T, same func(a, b *T) bool) bool {
	if len(a) != len(b) {
		return false
	}
	for i := range a {
		if !same(&a[i], &b[i]) {
			return false
		}
	}
	return true
}

func sameLocal(a, b *api.Local) bool {
	return a.Name == b.Name && a.Param == b.Param && sameType(&a.Type, &b.Type)
}

func sameType(a, b *api.RType) bool {
	return a.Kind == b.Kind && a.Name == b.Name &&
		slices.Equal(a.Regions, b.Regions) && sameList(a.Elem, b.Elem, sameType)
}

func sameInst(a, b *api.Inst) bool {
	return a.Kind == b.Kind && a.At == b.At && a.Has == b.Has &&
		samePath(&a.To, &b.To) && sameValue(&a.Value, &b.Value) && slices.Equal(a.Next, b.Next)
}

func sameValue(a, b *api.MValue) bool {
	return a.Kind == b.Kind && a.Op == b.Op && a.Region == b.Region && a.Name == b.Name &&
		sameOper(&a.A, &b.A) && sameOper(&a.B, &b.B) && samePath(&a.Path, &b.Path) &&
		slices.Equal(a.Regions, b.Regions) && sameList(a.Args, b.Args, sameOper)
}

func sameOper(a, b *api.MOper) bool {
	return a.Kind == b.Kind && a.N == b.N && samePath(&a.Path, &b.Path)
}

func samePath(a, b *api.Path) bool { return a.Local == b.Local && slices.Equal(a.Steps, b.Steps) }
