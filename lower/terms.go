package lower

import (
	"slices"

	"keyhole/api"
	"keyhole/types"
)

func number(n int) api.Term {
	return api.Term{N: n}
}

// reference returns the term for the flat variable with the index i.
func reference(i int) api.Term {
	return api.Term{Op: api.OpRef, N: i}
}

func operation(op api.Op, kids ...api.Term) api.Term {
	return api.Term{Op: op, Kids: kids}
}

// refersTo reports whether a term refers to one of the flat variables from first on up to end, without end.
func refersTo(t api.Term, first, end int) bool {
	within := func(kid api.Term) bool { return refersTo(kid, first, end) }
	return t.Op == api.OpRef && t.N >= first && t.N < end || slices.ContainsFunc(t.Kids, within)
}

// term returns the term of an expression with a scalar type. It is not deeper than the expression.
func (g *generator) term(f frame, e api.Expr) api.Term {
	if isPlace(e) {
		return g.read(g.place(f, e), 0)
	}
	g.nodes++
	switch e.Op {
	case api.OpLit:
		return number(e.N)
	case api.OpTrue:
		return number(1)
	case api.OpFalse:
		return number(0)
	}
	result := operation(e.Op)
	for _, kid := range e.Kids {
		result.Kids = append(result.Kids, g.term(f, kid))
	}
	return result
}

// place is what an expression denotes: a component of a variable, or one of several components, depending on indices.
type place struct {
	whole   variable
	of      api.Type
	first   int // its first scalar, if all indices are 0
	indices []index
}

// index is an index of a place that is not known.
type index struct {
	term   func() api.Term // made anew at each call
	size   int             // of the array
	stride int             // the number of scalars of an element
}

func (v variable) place() place {
	return place{whole: v, of: v.of, first: v.first}
}

func (g *generator) place(f frame, e api.Expr) place {
	if e.Op == api.OpName {
		return f.scope[e.Name].place()
	}
	p := g.place(f, e.Kids[0])
	if e.Op == api.OpField {
		of, at, _ := types.Find(p.of, "."+e.Name)
		p.of, p.first = of, p.first+at
		return p
	}
	size, of, at := p.of.Size, p.of.Of[0], e.Kids[1]
	stride := sizeOf(of)
	p.of = of
	if at.Op == api.OpLit || size == 1 {
		p.first += min(at.N, size-1) * stride
		return p
	}
	p.indices = append(p.indices, index{func() api.Term { return g.term(f, at) }, size, stride})
	return p
}

// read returns the value of the scalar k of a place. The last index is asked first, as the first one lies deepest in the
// expression.
func (g *generator) read(p place, k int) api.Term {
	if g.isFull() {
		return api.Term{}
	}
	g.nodes++
	if len(p.indices) == 0 {
		return reference(p.first + k)
	}
	end := len(p.indices) - 1
	last := p.indices[end]
	choice := operation(api.OpSelect, last.term())
	for i := range last.size {
		choice.Kids = append(choice.Kids, g.read(place{first: p.first + i*last.stride, indices: p.indices[:end]}, k))
	}
	return choice
}

// values returns the scalars of the value of an expression.
func (g *generator) values(f frame, e api.Expr) []api.Term {
	if !isPlace(e) {
		return []api.Term{g.term(f, e)}
	}
	return g.valuesAt(g.place(f, e))
}

// valuesAt returns the scalars of the value of a place.
func (g *generator) valuesAt(p place) []api.Term {
	var values []api.Term
	for k := range sizeOf(p.of) {
		values = append(values, g.read(p, k))
	}
	return values
}
