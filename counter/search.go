package counter

import (
	"math"
	"math/bits"

	"keyhole/api"
	"keyhole/formula"
	"keyhole/sat"
	"keyhole/space"
)

// patience is the size of all formulas that are met after which a search among more than MaxSearch variables is given up.
const patience = 1 << 24

// counter counts models, and remembers the counts of formulas that it has met.
type counter struct {
	known    map[string]int
	met      int // the size of all formulas that have been met
	patience int
}

// newCounter returns a counter for a formula.
func newCounter(c api.Cnf) *counter {
	k := counter{known: map[string]int{}, patience: math.MaxInt}
	if c.Vars > api.MaxSearch {
		k.patience = patience
	}
	return &k
}

// count returns the projected count of a formula with literals: the product of those of its components.
func (k *counter) count(c api.Cnf, lits []int) (int, api.Code) {
	set, left, ok := formula.After(c, lits)
	if !ok {
		return 0, api.OK
	}
	free := c.Keep
	for _, lit := range set {
		if max(lit, -lit) <= c.Keep {
			free--
		}
	}
	product := 1
	for _, part := range parts(pruned(left, c.Vars, c.Keep), c.Vars, c.Keep) {
		n, code := k.recall(part)
		if n == 0 {
			return 0, code
		}
		product *= n
		free -= part.Keep
	}
	return product << free, api.OK
}

// recall returns the projected count of a formula that has one component, of which each clause has at least two literals, and in which each variable occurs.
func (k *counter) recall(c api.Cnf) (int, api.Code) {
	key := string(rune(c.Keep)) + formula.Key(c.Clauses)
	if n, ok := k.known[key]; ok {
		return n, api.OK
	}
	k.met += formula.Size(c.Clauses)
	if k.met > k.patience {
		return 0, api.ErrLimit
	}
	n, code := k.search(c)
	if code == api.OK {
		k.known[key] = n
	}
	return n, code
}

// search returns such a count if it is not known yet.
func (k *counter) search(c api.Cnf) (int, api.Code) {
	if n, ok := look(c); ok {
		return n, api.OK
	}
	if c.Keep < c.Vars {
		// Without this, it might take the decisions of all kept variables to see that there is no model.
		_, found, code := sat.Solve(c)
		switch {
		case !found:
			return 0, code
		case c.Keep == 0:
			return 1, api.OK
		}
	}
	v := formula.Busiest(c.Clauses, c.Keep)
	no, code := k.count(c, []int{-v})
	if code != api.OK {
		return 0, code
	}
	yes, code := k.count(c, []int{v})
	if code != api.OK {
		return 0, code
	}
	return no + yes, api.OK
}

// It is better to look at all assignments than to decide a variable if that takes at most fewWords operations on words, and wordsEach more for each literal.
const (
	fewWords  = 1 << 14
	wordsEach = 256
)

// look returns the projected count of a formula from a look at all assignments, or false if that takes too long.
func look(c api.Cnf) (int, bool) {
	if c.Vars > api.MaxSearch {
		return 0, false
	}
	vars := make([]int, c.Vars)
	for i := range vars {
		vars[i] = i + 1
	}
	s := space.New(vars)
	visits := s.Words()
	for _, clause := range c.Clauses {
		visits += s.Visits(clause)
	}
	if visits > fewWords+wordsEach*formula.Size(c.Clauses) {
		return 0, false
	}
	wrong := make([]uint64, s.Words())
	for _, clause := range c.Clauses {
		s.Falsify(clause, func(word int, mask uint64) { wrong[word] |= mask })
	}
	count := 1 << c.Keep
	for _, word := range space.Project(wrong, c.Keep) {
		count -= bits.OnesCount64(word)
	}
	return count, true
}
