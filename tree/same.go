package tree

import (
	"slices"

	"usufruct/api"
)

// What goes down into blocks and types takes pointers: a copied statement at each step would need too much room where many are within one another.

func sameList[T any](a, b []T, same func(a, b *T) bool) bool {
	if len(a) != len(b) {
		return false
	}
	for i := range a {
		if !same(&a[i], &b[i]) {
			return false
		}
	}
	return true
}

func sameStruct(a, b *api.Struct) bool {
	return a.Pub == b.Pub && a.Name == b.Name && a.At == b.At &&
		slices.Equal(a.Lives, b.Lives) && sameList(a.Fields, b.Fields, sameField)
}

func sameFunc(a, b *api.Func) bool {
	return a.Pub == b.Pub && a.Name == b.Name && a.At == b.At &&
		sameList(a.Lives, b.Lives, sameLife) && sameList(a.Params, b.Params, sameField) &&
		sameType(&a.Result, &b.Result) && sameList(a.Body, b.Body, sameStmt)
}

func sameField(a, b *api.Field) bool {
	return a.Mut == b.Mut && a.Name == b.Name && sameType(&a.Type, &b.Type)
}

func sameLife(a, b *api.Life) bool { return a.Name == b.Name && slices.Equal(a.Over, b.Over) }

func sameType(a, b *api.Type) bool {
	return a.Kind == b.Kind && a.Name == b.Name &&
		slices.Equal(a.Lives, b.Lives) && sameList(a.Elem, b.Elem, sameType)
}

func sameStmt(a, b *api.Stmt) bool {
	return a.Kind == b.Kind && a.At == b.At && a.Mut == b.Mut && a.Name == b.Name && a.Has == b.Has &&
		sameType(&a.Type, &b.Type) && samePlace(&a.Place, &b.Place) &&
		sameValue(&a.Value, &b.Value) && sameOper(&a.Cond, &b.Cond) &&
		sameList(a.Then, b.Then, sameStmt) && sameList(a.Else, b.Else, sameStmt)
}

func samePlace(a, b *api.Place) bool { return a.Name == b.Name && slices.Equal(a.Path, b.Path) }

func sameOper(a, b *api.Oper) bool {
	return a.Kind == b.Kind && a.N == b.N && samePlace(&a.Place, &b.Place)
}

func sameValue(a, b *api.Value) bool {
	return a.Kind == b.Kind && a.Op == b.Op && a.Name == b.Name &&
		sameOper(&a.A, &b.A) && sameOper(&a.B, &b.B) && samePlace(&a.Place, &b.Place) &&
		slices.Equal(a.Names, b.Names) && sameList(a.Args, b.Args, sameOper)
}
