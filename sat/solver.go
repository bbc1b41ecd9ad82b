package sat

import (
	"math"
	"slices"

	"keyhole/api"
)

// none is the number of no clause.
const none = -1

// patience is the work after which a solver of more than MaxSearch variables gives up.
const patience = 1 << 28

// effort is the work to make room for a variable, or for a literal of a clause.
const effort = 10

// watch is a clause that watches a literal, and another literal of that clause: while that is true, the clause need not be looked at.
type watch struct {
	clause, other int
}

// solver knows clauses and an assignment of some variables, which grows by decisions and by what follows from them by unit propagation.
type solver struct {
	clauses  [][]int   // of two literals or more; the first two are watched
	watches  [][]watch // for each literal, by its place, the clauses that watch it
	values   []int     // of each variable: its true literal, or 0
	levels   []int     // of each variable with a value: the number of decisions up to it
	reasons  []int     // of each variable with a value: the clause from which it follows, or none
	trail    []int     // the true literals, in the order in which they became true
	begins   []int     // where in the trail each decision stands
	done     int       // so many literals of the trail have been propagated
	least    int       // all variables before it have values
	broken   bool      // there is a conflict without any decision
	given    int       // so many clauses have not been learned
	room     int       // for clauses that have been learned
	learned  func(clause []int)
	met      []bool // for each variable, whether a conflict has to do with it
	work     int    // a measure of the time that has been spent
	patience int    // the work that may be done
}

// newSolver returns a solver of clauses of the variables from 1 to vars.
func newSolver(vars int, clauses [][]int) *solver {
	s := &solver{
		watches:  make([][]watch, 2*vars+2),
		values:   make([]int, vars+1),
		levels:   make([]int, vars+1),
		reasons:  make([]int, vars+1),
		met:      make([]bool, vars+1),
		least:    1,
		room:     firstRoom,
		learned:  func(clause []int) {},
		patience: math.MaxInt,
	}
	if vars > api.MaxSearch {
		s.patience = patience
	}
	s.work = effort * vars
	for _, clause := range clauses {
		s.add(clause)
	}
	s.given = len(s.clauses)
	return s
}

// variable returns the variable of a literal.
func variable(lit int) int {
	return max(lit, -lit)
}

// place returns the index of what belongs to a literal.
func place(lit int) int {
	if lit < 0 {
		return -2 * lit
	}
	return 2*lit + 1
}

func (s *solver) isTrue(lit int) bool {
	return s.values[variable(lit)] == lit
}

func (s *solver) isFalse(lit int) bool {
	return s.values[variable(lit)] == -lit
}

// level returns the number of decisions.
func (s *solver) level() int {
	return len(s.begins)
}

// add adds a clause while there are no decisions. What is true or false then stays so, and need not be watched.
func (s *solver) add(clause []int) {
	s.work += effort * len(clause)
	if slices.ContainsFunc(clause, s.isTrue) {
		return
	}
	own := slices.DeleteFunc(slices.Clone(clause), s.isFalse)
	switch len(own) {
	case 0:
		s.broken = true
	case 1:
		s.set(own[0], none)
	default:
		s.attach(own)
	}
}

// attach keeps a clause of at least two literals, whose first two it watches, and returns its number.
func (s *solver) attach(clause []int) int {
	n := len(s.clauses)
	s.clauses = append(s.clauses, clause)
	s.watch(clause[0], watch{n, clause[1]})
	s.watch(clause[1], watch{n, clause[0]})
	return n
}

// set makes a literal true that has no value.
func (s *solver) set(lit, reason int) {
	v := variable(lit)
	s.values[v], s.levels[v], s.reasons[v] = lit, s.level(), reason
	s.trail = append(s.trail, lit)
}

// decide makes literals true, as far as they have no value, as one decision.
func (s *solver) decide(lits ...int) {
	s.begins = append(s.begins, len(s.trail))
	for _, lit := range lits {
		if !s.isTrue(lit) {
			s.set(lit, none)
		}
	}
}

// back takes back all decisions but the first ones.
func (s *solver) back(level int) {
	if level == s.level() {
		return
	}
	begin := s.begins[level]
	for _, lit := range s.trail[begin:] {
		s.values[variable(lit)] = 0
		s.least = min(s.least, variable(lit))
	}
	s.trail = s.trail[:begin]
	s.begins = s.begins[:level]
	s.done = min(s.done, begin)
}

// propagate makes true what follows by unit propagation, until nothing is left or a clause is false. It returns the number of that clause, or none.
func (s *solver) propagate() int {
	for s.done < len(s.trail) {
		lit := s.trail[s.done]
		s.done++
		if conflict := s.visit(-lit); conflict != none {
			return conflict
		}
	}
	return none
}

// watch lets a clause watch a literal.
func (s *solver) watch(lit int, w watch) {
	s.watches[place(lit)] = append(s.watches[place(lit)], w)
}

// visit goes through the clauses that watch a literal that is false now. Each of them watches another one instead, or its other watched literal must be true. It returns the number of a clause where that one is false, or none.
func (s *solver) visit(lit int) int {
	watching := s.watches[place(lit)]
	s.work += len(watching)
	stay := watching[:0]
	conflict := none
	for i, w := range watching {
		if s.isTrue(w.other) {
			stay = append(stay, w)
			continue
		}
		n, clause := w.clause, s.clauses[w.clause]
		if clause[0] == lit {
			clause[0], clause[1] = clause[1], lit
		}
		if !s.isTrue(clause[0]) && s.move(n) {
			continue
		}
		stay = append(stay, watch{n, clause[0]})
		if s.isFalse(clause[0]) {
			stay = append(stay, watching[i+1:]...)
			conflict = n
			break
		}
		if !s.isTrue(clause[0]) {
			s.set(clause[0], n)
		}
	}
	s.watches[place(lit)] = stay
	return conflict
}

// move lets a clause watch another literal instead of its second one, and reports whether there is one that is not false.
func (s *solver) move(n int) bool {
	clause := s.clauses[n]
	for i := 2; i < len(clause); i++ {
		if !s.isFalse(clause[i]) {
			s.work += i
			clause[1], clause[i] = clause[i], clause[1]
			s.watch(clause[1], watch{n, clause[0]})
			return true
		}
	}
	s.work += len(clause)
	return false
}

// isBroken reports whether there is a conflict without any decision, and must be called while there is none.
func (s *solver) isBroken() bool {
	s.broken = s.broken || s.propagate() != none
	return s.broken
}

// follows reports whether a clause follows by propagation from those that are known.
func (s *solver) follows(clause []int) bool {
	if s.isBroken() || slices.ContainsFunc(clause, s.isTrue) {
		return true
	}
	var negations []int
	for _, lit := range clause {
		negations = append(negations, -lit)
	}
	s.decide(negations...)
	conflict := s.propagate()
	s.back(0)
	return conflict != none
}
