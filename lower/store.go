package lower

import "keyhole/api"

// store assigns values to the scalars of a place. The values, and the indices of the place, are those before the first
// assignment.
func (g *generator) store(p place, values []api.Term) {
	if len(p.indices) > 0 {
		g.storeAnywhere(p, values)
		return
	}
	for k, value := range values {
		if refersTo(value, p.first, p.first+k) {
			values = g.computed(p, values)
			break
		}
	}
	for k, value := range values {
		g.assign(p.first+k, value)
	}
}

// storeAnywhere assigns values to the scalars of a place with indices.
func (g *generator) storeAnywhere(p place, values []api.Term) {
	var indices []index
	for _, x := range p.indices {
		indices = append(indices, g.fixed(x, p.whole))
	}
	for k, value := range g.computed(p, values) {
		g.choose(indices, p.first+k, value, nil)
	}
}

// fixed returns an index that has its value in a variable, which lies within the array and is not assigned with the place.
func (g *generator) fixed(x index, assigned variable) index {
	t := x.term()
	if t.Op != api.OpRef || assigned.has(t.N) || g.vars[t.N].Low < 0 || g.vars[t.N].High >= x.size {
		t = g.hold(t, bounds{0, x.size - 1})
	}
	x.term = func() api.Term { return t }
	return x
}

// computed returns values of which none is more than a number or a variable, so that they can be used again.
func (g *generator) computed(p place, values []api.Term) []api.Term {
	scalars := scalarsOf(p.of)
	var result []api.Term
	for k, value := range values {
		if len(value.Kids) > 0 {
			value = g.hold(value, bounds{scalars[k].Low, scalars[k].High})
		}
		result = append(result, value)
	}
	return result
}

// hold assigns a value to a temporary variable, and returns the reference to it.
func (g *generator) hold(t api.Term, b bounds) api.Term {
	v := g.temporary(b)
	g.assign(v, t)
	return reference(v)
}

// choose assigns a value to the one of several variables that the indices mean, of which v is the first, and lets the others
// keep their values. The condition isMeant holds for them so far, if there is one.
func (g *generator) choose(indices []index, v int, value api.Term, isMeant func() api.Term) {
	if len(indices) == 0 {
		g.assign(v, operation(api.OpCond, isMeant(), value, reference(v)))
		return
	}
	x := indices[0]
	for i := range x.size {
		if g.isFull() {
			return
		}
		g.choose(indices[1:], v+i*x.stride, value, func() api.Term {
			isHere := operation(api.OpEq, x.term(), number(i))
			if isMeant == nil {
				return isHere
			}
			return operation(api.OpAnd, isMeant(), isHere)
		})
	}
}
