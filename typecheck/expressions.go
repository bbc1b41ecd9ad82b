package typecheck

import (
	"slices"

	"keyhole/api"
	"keyhole/types"
)

// lookup finds the variables that an expression may read.
type lookup func(name string) (variable, bool)

// typeOf returns the type of a well-formed expression, or the code of its first error.
func (find lookup) typeOf(e api.Expr) (api.Type, api.Code) {
	var kids []api.Type
	for _, kid := range e.Kids {
		t, code := find.typeOf(kid)
		if code != api.OK {
			return api.Type{}, code
		}
		kids = append(kids, t)
	}
	switch e.Op {
	case api.OpLit:
		return numbers(interval{e.N, e.N}), api.OK
	case api.OpTrue, api.OpFalse:
		return truth(), api.OK
	case api.OpName:
		v, ok := find(e.Name)
		if !ok {
			return api.Type{}, api.ErrName
		}
		return v.of, api.OK
	case api.OpField:
		return fieldType(kids[0], e.Name)
	case api.OpIndex:
		return elementType(kids[0], kids[1])
	}
	return operationType(e.Op, kids)
}

// fits returns the code of the first error of the expression, or ErrType if its value is not assignable to a place of the
// type.
func (find lookup) fits(value api.Expr, place api.Type) api.Code {
	t, code := find.typeOf(value)
	if code == api.OK && !assignable(t, place) {
		return api.ErrType
	}
	return code
}

// assignable reports whether a value of the type can be assigned to a place of the other type. A value of an aggregate type
// is a place always: no other expression has such a type.
func assignable(value, place api.Type) bool {
	if isScalar(value) {
		return value.Kind == place.Kind
	}
	return types.Equal(value, place)
}

func truth() api.Type {
	return api.Type{Kind: api.TypeBool}
}

func numbers(i interval) api.Type {
	return api.Type{Kind: api.TypeInt, Low: i.low, High: i.high}
}

func isScalar(t api.Type) bool {
	return t.Kind == api.TypeBool || t.Kind == api.TypeInt
}

// fieldType returns the type of the component of a record.
func fieldType(record api.Type, name string) (api.Type, api.Code) {
	if record.Kind != api.TypeRecord {
		return api.Type{}, api.ErrType
	}
	i := slices.Index(record.Names, name)
	if i < 0 {
		return api.Type{}, api.ErrName
	}
	return record.Of[i], api.OK
}

// elementType returns the type of the elements of an array.
func elementType(array, index api.Type) (api.Type, api.Code) {
	if array.Kind != api.TypeArray || index.Kind != api.TypeInt {
		return api.Type{}, api.ErrType
	}
	return array.Of[0], api.OK
}

// operationType returns the type of what an operator from OpNeg on makes of operands of the types.
func operationType(op api.Op, kids []api.Type) (api.Type, api.Code) {
	if !suit(op, kids) {
		return api.Type{}, api.ErrType
	}
	if op == api.OpCond {
		kids = kids[1:]
	}
	if givesTruth(op) || kids[0].Kind == api.TypeBool {
		return truth(), api.OK
	}
	result := rangeOf(op, kids)
	if result.low < -api.MaxInt || result.high > api.MaxInt {
		return api.Type{}, api.ErrRange
	}
	return numbers(result), api.OK
}

// suit reports whether an operator from OpNeg on takes operands of the types.
func suit(op api.Op, kids []api.Type) bool {
	switch op {
	case api.OpNot, api.OpAnd, api.OpOr:
		return areAll(api.TypeBool, kids)
	case api.OpEq, api.OpNe:
		return areAlike(kids)
	case api.OpCond:
		return kids[0].Kind == api.TypeBool && areAlike(kids[1:])
	}
	return areAll(api.TypeInt, kids)
}

// givesTruth reports whether the operator gives a bool whatever its operands are.
func givesTruth(op api.Op) bool {
	switch op {
	case api.OpNot, api.OpEq, api.OpNe, api.OpLt, api.OpLe, api.OpGt, api.OpGe, api.OpAnd, api.OpOr:
		return true
	}
	return false
}

func areAll(kind api.TypeKind, list []api.Type) bool {
	return !slices.ContainsFunc(list, func(t api.Type) bool { return t.Kind != kind })
}

// areAlike reports whether all types are bool, or all are int.
func areAlike(list []api.Type) bool {
	return areAll(api.TypeBool, list) || areAll(api.TypeInt, list)
}
