package ddnnf

import (
	"slices"

	"keyhole/api"
	"keyhole/counter"
	"keyhole/formula"
)

// fewVars is the number of variables up to which every formula is compiled, and bulk the size of all formulas that are met after which one with more variables is given up.
const (
	fewVars = 12
	bulk    = 1 << 23
)

// The first two parts of a compiler.
const (
	never  = 0
	always = 1
)

// compiler makes parts, and remembers for which formulas they stand.
type compiler struct {
	vars     int
	parts    []api.Part
	literals map[int]int
	known    map[string]int
	met      int // the size of all formulas that have been met
}

// compile returns a normal form of a formula.
func compile(c api.Cnf) (api.Dnnf, api.Code) {
	k := compiler{vars: c.Vars, literals: map[int]int{}, known: map[string]int{}}
	k.parts = []api.Part{never: {Kind: api.PartFalse}, always: {Kind: api.PartTrue}}
	root, code := k.given(c.Clauses, nil)
	if code != api.OK {
		return api.Dnnf{}, code
	}
	if root >= MaxParts {
		return api.Dnnf{}, api.ErrLimit
	}
	// What stands behind the root is not reached from it.
	return api.Dnnf{Vars: c.Vars, Parts: slices.Clip(k.parts[:root+1])}, api.OK
}

// given returns a part for a canonical list of clauses in which literals are true. It does not mention these literals.
func (k *compiler) given(clauses [][]int, lits []int) (int, api.Code) {
	set, left, ok := formula.After(api.Cnf{Vars: k.vars, Clauses: clauses}, lits)
	if !ok {
		return never, api.OK
	}
	var kids []int
	for _, lit := range set {
		if !slices.Contains(lits, lit) {
			kids = append(kids, k.literal(lit))
		}
	}
	for _, component := range counter.Components(left) {
		var own [][]int
		for _, i := range component {
			own = append(own, left[i])
		}
		kid, code := k.recall(own)
		if code != api.OK || kid == never {
			return never, code
		}
		kids = append(kids, kid)
	}
	return k.and(kids), api.OK
}

// recall returns a part for a component of clauses, each of which has at least two literals.
func (k *compiler) recall(clauses [][]int) (int, api.Code) {
	key := formula.Key(clauses)
	if part, ok := k.known[key]; ok {
		return part, api.OK
	}
	k.met += formula.Size(clauses)
	if k.vars > fewVars && (k.met > bulk || len(k.parts) > MaxParts) {
		return never, api.ErrLimit
	}
	v := formula.Busiest(clauses, k.vars)
	low, code := k.given(clauses, []int{-v})
	if code != api.OK {
		return never, code
	}
	high, code := k.given(clauses, []int{v})
	if code != api.OK {
		return never, code
	}
	part := low
	if low != high {
		part = k.add(api.Part{Kind: api.PartDecide, Lit: v, Kids: []int{low, high}})
	}
	k.known[key] = part
	return part, api.OK
}

// add appends a part and returns its index.
func (k *compiler) add(p api.Part) int {
	k.parts = append(k.parts, p)
	return len(k.parts) - 1
}

// literal returns the part for a literal.
func (k *compiler) literal(lit int) int {
	part, ok := k.literals[lit]
	if !ok {
		part = k.add(api.Part{Kind: api.PartLit, Lit: lit})
		k.literals[lit] = part
	}
	return part
}

// and returns a part for a conjunction.
func (k *compiler) and(kids []int) int {
	switch len(kids) {
	case 0:
		return always
	case 1:
		return kids[0]
	}
	return k.add(api.Part{Kind: api.PartAnd, Kids: kids})
}
