package counter

import (
	"math"
	"math/bits"
	"slices"

	"keyhole/api"
	"keyhole/cnf"
	"keyhole/formula"
	"keyhole/sat"
)

// The rules from which claims follow: layer 34 checks them.
const (
	empty  = iota // there are no clauses
	falsum        // a clause is empty
	unit          // the literal is a clause
	decide        // the kept variable is false or true
	split         // the kids are the components
	try           // there is no kept variable, and a model in which the literal is true
	both          // there is no model, whether the variable is false or true
)

// none is the index of no claim.
const none = -1

// fewVars is the number of variables up to which there is always a trace, and bulk the size of all formulas that are met after which a trace of more variables is given up.
const (
	fewVars = 12
	bulk    = 1 << 23
)

// tracer makes claims, and remembers which formulas they are about.
type tracer struct {
	vars, keep int
	claims     []api.Claim
	known      map[string]int
	met        int // the size of all formulas that have been met
	bulk       int
	spent      bool  // it takes too long, and no more claims are made
	values     []int // in a refutation, of each variable: its true literal, or 0
}

// newTracer returns a tracer for a formula.
func newTracer(c api.Cnf) *tracer {
	t := tracer{vars: c.Vars, keep: c.Keep, known: map[string]int{}, bulk: math.MaxInt, values: make([]int, c.Vars+1)}
	if c.Vars > fewVars {
		t.bulk = bulk
	}
	return &t
}

// count returns the index of a claim about a canonical list of clauses, or none.
func (t *tracer) count(f [][]int) int {
	if i, ok := t.recall(f); ok {
		return i
	}
	t.met += t.vars
	c := api.Cnf{Vars: t.vars, Clauses: f}
	model, found, code := sat.Solve(c)
	if found {
		return t.branch(f, model)
	}
	if code == api.OK {
		var lemmas [][]int
		if lemmas, code = sat.Refute(c); code == api.OK {
			return t.refute(f, lemmas)
		}
	}
	t.spent = true
	return none
}

// recall returns the index of a claim about clauses if there is one already, and none if no more are made.
func (t *tracer) recall(f [][]int) (int, bool) {
	t.met += formula.Size(f)
	t.spent = t.spent || t.met > t.bulk
	if t.spent {
		return none, true
	}
	i, ok := t.known[formula.Key(f)]
	return i, ok
}

// branch returns the index of a claim about clauses that have a model, or none.
func (t *tracer) branch(f [][]int, model []bool) int {
	if i, ok := t.recall(f); ok {
		return i
	}
	isTrue := func(lit int) bool { return model[max(lit, -lit)-1] == (lit > 0) }
	after := func(lit int) int {
		if isTrue(lit) {
			return t.branch(cnf.Residual(f, lit), model)
		}
		return t.count(cnf.Residual(f, lit))
	}
	if len(f) == 0 {
		return t.claim(f, empty, 0)
	}
	if components := Components(f); len(components) > 1 {
		var kids []int
		for _, component := range components {
			var part [][]int
			for _, i := range component {
				part = append(part, f[i])
			}
			kids = append(kids, t.branch(part, model))
		}
		return t.claim(f, split, 0, kids...)
	}
	if lit := unitOf(f); lit != 0 {
		return t.claim(f, unit, lit, after(lit))
	}
	if v := formula.Busiest(f, t.keep); v != 0 {
		return t.claim(f, decide, v, after(-v), after(v))
	}
	lit := mostUseful(f, isTrue)
	return t.claim(f, try, lit, after(lit))
}

// unitOf returns the literal of a clause that has no other one, or 0.
func unitOf(f [][]int) int {
	for _, clause := range f {
		if len(clause) == 1 {
			return clause[0]
		}
	}
	return 0
}

// mostUseful returns a literal that makes most clauses true, among those that are true in a model.
func mostUseful(f [][]int, isTrue func(lit int) bool) int {
	counts := map[int]int{}
	best := 0
	for _, clause := range f {
		for _, lit := range clause {
			if !isTrue(lit) {
				continue
			}
			counts[lit]++
			if counts[lit] > counts[best] {
				best = lit
			}
		}
	}
	return best
}

// refute returns the index of a claim about clauses that have no model, or none. While a lemma that is not true has literals without values, they are decided: as the lemmas before it are true, there is then a conflict by unit propagation alone.
func (t *tracer) refute(f [][]int, lemmas [][]int) int {
	if i, ok := t.recall(f); ok {
		return i
	}
	if len(f[0]) == 0 {
		return t.claim(f, falsum, 0)
	}
	isTrue := func(lit int) bool { return t.values[max(lit, -lit)] == lit }
	for slices.ContainsFunc(lemmas[0], isTrue) {
		lemmas = lemmas[1:] // the last one is empty
	}
	after := func(lit int) int {
		v := max(lit, -lit)
		t.values[v] = lit
		kid := t.refute(cnf.Residual(f, lit), lemmas)
		t.values[v] = 0
		return kid
	}
	if lit := unitOf(f); lit != 0 {
		return t.claim(f, unit, lit, after(lit))
	}
	v := guide(f, lemmas[0])
	return t.claim(f, both, v, after(-v), after(v))
}

// guide returns the first variable of a lemma that occurs in clauses, which are not empty, or any other one if there is none.
func guide(f [][]int, lemma []int) int {
	best := f[0][0]
search:
	for _, lit := range lemma {
		for _, clause := range f {
			if slices.Contains(clause, lit) || slices.Contains(clause, -lit) {
				best = lit
				break search
			}
		}
	}
	return max(best, -best)
}

// claim appends a claim that follows from others by a rule, and returns its index, or none.
func (t *tracer) claim(f [][]int, rule, lit int, kids ...int) int {
	t.spent = t.spent || len(t.claims) == api.MaxTrace
	if t.spent {
		return none
	}
	c := api.Claim{Rule: rule, Lit: lit, Kids: kids}
	for _, clause := range f {
		c.Clauses = append(c.Clauses, slices.Clone(clause))
	}
	switch rule {
	case empty, try:
		c.Count = 1
	case unit, decide:
		for _, kid := range kids {
			g := t.claims[kid]
			vanished := t.kept(f) &^ t.kept(g.Clauses) &^ (1 << max(lit, -lit))
			c.Count += g.Count << bits.OnesCount64(vanished)
		}
	case split:
		c.Count = 1
		for _, kid := range kids {
			c.Count *= t.claims[kid].Count
		}
	}
	t.known[formula.Key(f)] = len(t.claims)
	t.claims = append(t.claims, c)
	return len(t.claims) - 1
}

// kept returns the kept variables of clauses, of which there are at most MaxBit, as a set of bits.
func (t *tracer) kept(f [][]int) uint64 {
	var set uint64
	for _, clause := range f {
		for _, lit := range clause {
			if v := max(lit, -lit); v <= t.keep {
				set |= 1 << v
			}
		}
	}
	return set
}
