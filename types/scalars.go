package types

import (
	"strconv"
	"strings"

	"keyhole/api"
)

// component is a component of an array or a record, with the end of its path.
type component struct {
	name string
	of   api.Type
}

// components returns the components of a valid type itself in order, none if it is a scalar.
func components(t api.Type) []component {
	var list []component
	switch t.Kind {
	case api.TypeArray:
		for i := range t.Size {
			list = append(list, component{strconv.Itoa(i), t.Of[0]})
		}
	case api.TypeRecord:
		for i, of := range t.Of {
			list = append(list, component{t.Names[i], of})
		}
	}
	return list
}

// join returns the path of the component with the name of what has the path.
func join(path, name string) string {
	var b strings.Builder
	b.WriteString(path)
	b.WriteByte('.')
	b.WriteString(name)
	return b.String()
}

// scalar returns the description of a type that is a scalar.
func scalar(t api.Type, path string) api.Scalar {
	if t.Kind == api.TypeBool {
		return api.Scalar{Path: path, Bool: true, Low: 0, High: 1}
	}
	return api.Scalar{Path: path, Low: t.Low, High: t.High}
}

// Scalars returns the scalar components of a valid type in order.
func Scalars(t api.Type) ([]api.Scalar, api.Code) {
	if code := Check(t); code != api.OK {
		return nil, code
	}
	var list []api.Scalar
	var collect func(t api.Type, path string)
	collect = func(t api.Type, path string) {
		within := components(t)
		if len(within) == 0 {
			list = append(list, scalar(t, path))
		}
		for _, c := range within {
			collect(c.of, join(path, c.name))
		}
	}
	collect(t, "")
	return list, api.OK
}

// Find returns the type of the component of t with the given path, and the index of its first scalar.
func Find(t api.Type, path string) (api.Type, int, api.Code) {
	if code := Check(t); code != api.OK {
		return api.Type{}, 0, code
	}
	index := 0
	var find func(t api.Type, path string) (api.Type, api.Code)
	find = func(t api.Type, path string) (api.Type, api.Code) {
		if path == "" {
			return copied(t), api.OK
		}
		name, rest, ok := split(path)
		if !ok {
			return api.Type{}, api.ErrName
		}
		for _, c := range components(t) {
			if c.name == name {
				return find(c.of, rest)
			}
			index += size(c.of)
		}
		return api.Type{}, api.ErrName
	}
	found, code := find(t, path)
	if code != api.OK {
		return api.Type{}, 0, code
	}
	return found, index, api.OK
}

// split returns the first name of a path that is not empty, and the path behind it.
func split(path string) (name, rest string, ok bool) {
	names, ok := strings.CutPrefix(path, ".")
	if !ok {
		return "", "", false
	}
	if end := strings.IndexByte(names, '.'); end >= 0 {
		return names[:end], names[end:], true
	}
	return names, "", true
}

// Values returns the number of values of t.
func Values(t api.Type) (int, api.Code) {
	scalars, code := Scalars(t)
	if code != api.OK {
		return 0, code
	}
	total := 1
	for _, s := range scalars {
		total *= s.High - s.Low + 1
		// The bound keeps the product far from the end of an int.
		if total > api.MaxValue {
			return 0, api.ErrLimit
		}
	}
	return total, api.OK
}

// Contains reports whether list gives each scalar of t one of its values.
func Contains(t api.Type, list []int) bool {
	scalars, code := Scalars(t)
	if code != api.OK || len(list) != len(scalars) {
		return false
	}
	for i, s := range scalars {
		if list[i] < s.Low || list[i] > s.High {
			return false
		}
	}
	return true
}

// Clamp returns list with each number replaced by the nearest value of its scalar.
func Clamp(t api.Type, list []int) ([]int, api.Code) {
	scalars, code := Scalars(t)
	if code != api.OK {
		return nil, code
	}
	if len(list) != len(scalars) {
		return nil, api.ErrMismatch
	}
	clamped := make([]int, len(list))
	for i, s := range scalars {
		clamped[i] = min(max(list[i], s.Low), s.High)
	}
	return clamped, api.OK
}
