package lower

import (
	"keyhole/api"
	"keyhole/types"
)

// variable is an input or a variable with its expanded type. Its scalars are flat variables one behind the other.
type variable struct {
	of    api.Type
	first int // the index of the first of them
}

// has reports whether the flat variable with the index i is a scalar of the variable.
func (v variable) has(i int) bool {
	return i >= v.first && i < v.first+sizeOf(v.of)
}

// scope has the visible variables by their names.
type scope map[string]variable

// typeOf returns the type of a place.
func (s scope) typeOf(place api.Expr) api.Type {
	switch place.Op {
	case api.OpField:
		of, _, _ := types.Find(s.typeOf(place.Kids[0]), "."+place.Name)
		return of
	case api.OpIndex:
		return s.typeOf(place.Kids[0]).Of[0]
	}
	return s[place.Name].of
}

func isPlace(e api.Expr) bool {
	return e.Op == api.OpName || e.Op == api.OpField || e.Op == api.OpIndex
}

// scalarsOf returns the scalars of an expanded type.
func scalarsOf(t api.Type) []api.Scalar {
	scalars, _ := types.Scalars(t)
	return scalars
}

// sizeOf returns the number of scalars of an expanded type.
func sizeOf(t api.Type) int {
	return len(scalarsOf(t))
}
