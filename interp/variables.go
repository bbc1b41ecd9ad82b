package interp

import "keyhole/api"

// shape says where the components of an expanded type are among its scalars.
type shape struct {
	size   int // the number of the scalars
	names  []string
	of     []*shape // the components of an array or a record, none of a scalar
	starts []int    // their first scalars
}

func shapeOf(t api.Type) *shape {
	s := &shape{names: t.Names}
	switch t.Kind {
	case api.TypeArray:
		element := shapeOf(t.Of[0])
		for range t.Size {
			s.add(element)
		}
	case api.TypeRecord:
		for _, of := range t.Of {
			s.add(shapeOf(of))
		}
	default:
		s.size = 1
	}
	return s
}

// add adds a component behind the others.
func (s *shape) add(of *shape) {
	s.of = append(s.of, of)
	s.starts = append(s.starts, s.size)
	s.size += of.size
}

// declared is an input, a variable, a parameter or a hatch as it is declared.
type declared struct {
	name    string
	kind    api.DeclKind
	shape   *shape
	scalars []api.Scalar
	init    int
	value   api.Expr // of a hatch
}

// variable has the values of the scalars of what is declared.
type variable struct {
	*declared
	values []int
}

// holding returns a variable with the values, clamped to its scalars.
func (d *declared) holding(values []int) variable {
	return variable{d, clamped(values, d.scalars)}
}

// initial returns a variable with the values that it has at the start.
func (d *declared) initial() variable {
	v := variable{d, make([]int, len(d.scalars))}
	for i, s := range d.scalars {
		if v.values[i] = clamp(d.init, s.Low, s.High); s.Bool {
			v.values[i] = truth(d.init != 0)
		}
	}
	return v
}

// clamped returns the values of the scalars that are nearest to the numbers.
func clamped(numbers []int, scalars []api.Scalar) []int {
	result := make([]int, len(numbers))
	for i, n := range numbers {
		result[i] = clamp(n, scalars[i].Low, scalars[i].High)
	}
	return result
}

func clamp(n, low, high int) int {
	return min(max(n, low), high)
}
