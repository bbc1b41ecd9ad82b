package ddnnf

import (
	"math/bits"

	"keyhole/api"
)

// normal is a valid normal form and the sets of variables that its parts mention. In a set, the first variable is the highest bit, so that sets of true variables are ordered as assignments are.
type normal struct {
	api.Dnnf
	mentions []uint64
}

// isLiteral reports whether lit is a literal of a variable from 1 to vars.
func isLiteral(lit, vars int) bool {
	return lit != 0 && lit >= -vars && lit <= vars
}

// load returns a normal form with the sets of its variables, or its first error.
func load(d api.Dnnf) (normal, api.Code) {
	switch {
	case d.Vars < 0:
		return normal{}, api.ErrArgument
	case d.Vars > api.MaxBit || len(d.Parts) > MaxParts:
		return normal{}, api.ErrLimit
	case len(d.Parts) == 0:
		return normal{}, api.ErrArgument
	}
	n := normal{d, nil}
	for _, p := range d.Parts {
		mentions, code := n.mention(p)
		if code != api.OK {
			return normal{}, code
		}
		n.mentions = append(n.mentions, mentions)
	}
	return n, api.OK
}

// mention returns the variables that the next part mentions, or its first error.
func (n normal) mention(p api.Part) (uint64, api.Code) {
	if !hasForm(p) {
		return 0, api.ErrArgument
	}
	hasLit := p.Kind == api.PartLit || p.Kind == api.PartDecide
	if hasLit && (!isLiteral(p.Lit, n.Vars) || p.Kind == api.PartDecide && p.Lit < 0) {
		return 0, api.ErrRange
	}
	for _, kid := range p.Kids {
		if kid < 0 || kid >= len(n.mentions) {
			return 0, api.ErrOrder
		}
	}
	var own, kids uint64
	if hasLit {
		own = n.bit(p.Lit)
	}
	for _, kid := range p.Kids {
		mentions := n.mentions[kid]
		if mentions&own != 0 || p.Kind == api.PartAnd && mentions&kids != 0 {
			return 0, api.ErrMismatch
		}
		kids |= mentions
	}
	return own | kids, api.OK
}

// hasForm reports whether a part is of one of the kinds and has nothing that its kind has not.
func hasForm(p api.Part) bool {
	switch p.Kind {
	case api.PartTrue, api.PartFalse:
		return p.Lit == 0 && len(p.Kids) == 0
	case api.PartLit:
		return len(p.Kids) == 0
	case api.PartAnd:
		return p.Lit == 0
	case api.PartDecide:
		return len(p.Kids) == 2
	}
	return false
}

// bit returns the set of the variable of a literal.
func (n normal) bit(lit int) uint64 {
	return 1 << (n.Vars - max(lit, -lit))
}

// all returns the set of all variables.
func (n normal) all() uint64 {
	return 1<<n.Vars - 1
}

// assignment returns the assignment with a set of true variables.
func (n normal) assignment(model uint64) []bool {
	in := make([]bool, n.Vars)
	for i := range in {
		in[i] = model&n.bit(i+1) != 0
	}
	return in
}

// eval returns the value of the last one of parts for an assignment.
func eval(parts []api.Part, in []bool) bool {
	values := make([]bool, len(parts))
	for i, p := range parts {
		switch p.Kind {
		case api.PartTrue:
			values[i] = true
		case api.PartLit:
			values[i] = in[max(p.Lit, -p.Lit)-1] == (p.Lit > 0)
		case api.PartAnd:
			values[i] = true
			for _, kid := range p.Kids {
				values[i] = values[i] && values[kid]
			}
		case api.PartDecide:
			kid := p.Kids[0]
			if in[p.Lit-1] {
				kid = p.Kids[1]
			}
			values[i] = values[kid]
		}
	}
	return values[len(parts)-1]
}

// conditioned returns a part if some variables have values: values has of each variable its true literal, or 0.
func conditioned(p api.Part, values []int) api.Part {
	lit := values[max(p.Lit, -p.Lit)]
	switch {
	case lit == 0:
		return api.Part{Kind: p.Kind, Lit: p.Lit, Kids: append([]int{}, p.Kids...)}
	case p.Kind == api.PartDecide && lit > 0:
		return api.Part{Kind: api.PartAnd, Kids: []int{p.Kids[1]}}
	case p.Kind == api.PartDecide:
		return api.Part{Kind: api.PartAnd, Kids: []int{p.Kids[0]}}
	case p.Lit == lit:
		return api.Part{Kind: api.PartTrue}
	}
	return api.Part{Kind: api.PartFalse}
}

// given are the values of some variables.
type given struct {
	set, truth uint64
}

// with returns the values with that of a further variable.
func (g given) with(bit uint64, value bool) given {
	g.set |= bit
	if value {
		g.truth |= bit
	}
	return g
}

// allows reports whether a variable may have a value.
func (g given) allows(bit uint64, value bool) bool {
	return g.set&bit == 0 || g.truth&bit != 0 == value
}

// count returns the number of models with given values.
func (n normal) count(g given) int {
	counts := make([]int, len(n.Parts)) // of each part, over the variables that it mentions
	doubled := func(kid int, set uint64) int {
		return counts[kid] << bits.OnesCount64(set&^g.set&^n.mentions[kid])
	}
	for i, p := range n.Parts {
		switch p.Kind {
		case api.PartTrue:
			counts[i] = 1
		case api.PartLit:
			if g.allows(n.bit(p.Lit), p.Lit > 0) {
				counts[i] = 1
			}
		case api.PartAnd:
			counts[i] = 1
			for _, kid := range p.Kids {
				counts[i] *= counts[kid]
			}
		case api.PartDecide:
			bit := n.bit(p.Lit)
			for k, kid := range p.Kids {
				if g.allows(bit, k == 1) {
					counts[i] += doubled(kid, n.mentions[i]&^bit)
				}
			}
		}
	}
	return doubled(len(counts)-1, n.all())
}

// nth returns the model with a number, and whether there is one.
func (n normal) nth(number int) ([]bool, bool) {
	var g given
	if number < 0 || number >= n.count(g) {
		return nil, false
	}
	for v := 1; v <= n.Vars; v++ {
		no := g.with(n.bit(v), false)
		if count := n.count(no); number >= count {
			number -= count
			g = g.with(n.bit(v), true)
		} else {
			g = no
		}
	}
	return n.assignment(g.truth), true
}

// impossible is more than any cost.
const impossible = api.Never

// choice is the least model of those with the least cost.
type choice struct {
	cost  int
	model uint64
}

// and returns the choice of the values of two disjoint sets of variables.
func (c choice) and(d choice) choice {
	if c.cost == impossible || d.cost == impossible {
		return choice{cost: impossible}
	}
	return choice{c.cost + d.cost, c.model | d.model}
}

// or returns the better one of two choices for the same variables.
func (c choice) or(d choice) choice {
	if d.cost < c.cost || d.cost == c.cost && d.model < c.model {
		return d
	}
	return c
}

// areCosts reports whether each number is a cost.
func areCosts(l []int) bool {
	for _, cost := range l {
		if cost < 0 || cost > api.MaxLoss {
			return false
		}
	}
	return true
}

// cheapest returns the best choice of a model, whose cost is impossible if there is none.
func (n normal) cheapest(no, yes []int) choice {
	value := func(lit int) choice {
		if lit < 0 {
			return choice{no[-lit-1], 0}
		}
		return choice{yes[lit-1], n.bit(lit)}
	}
	choices := make([]choice, len(n.Parts))
	filled := func(kid int, set uint64) choice {
		best := choices[kid]
		for rest := set &^ n.mentions[kid]; rest != 0; rest &= rest - 1 {
			v := n.Vars - bits.TrailingZeros64(rest)
			best = best.and(value(-v).or(value(v)))
		}
		return best
	}
	for i, p := range n.Parts {
		switch p.Kind {
		case api.PartFalse:
			choices[i].cost = impossible
		case api.PartLit:
			choices[i] = value(p.Lit)
		case api.PartAnd:
			for _, kid := range p.Kids {
				choices[i] = choices[i].and(choices[kid])
			}
		case api.PartDecide:
			set := n.mentions[i] &^ n.bit(p.Lit)
			low, high := filled(p.Kids[0], set), filled(p.Kids[1], set)
			choices[i] = low.and(value(-p.Lit)).or(high.and(value(p.Lit)))
		}
	}
	return filled(len(choices)-1, n.all())
}
