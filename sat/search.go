package sat

import (
	"cmp"
	"slices"

	"keyhole/api"
)

// firstRoom is the number of learned clauses that a solver has room for at first, and moreRoom how many more each time when it has forgotten some.
const (
	firstRoom = 1000
	moreRoom  = 200
)

// search decides literals that choose returns, and goes back where that leads to a conflict, until choose returns 0. The code is ErrMissing if the clauses have no model, and ErrLimit if it takes too long.
func (s *solver) search(choose func() int) api.Code {
descent:
	for !s.broken {
		conflict := s.propagate()
		switch {
		case conflict != none && s.level() == 0:
			return api.ErrMissing
		case s.work > s.patience:
			return api.ErrLimit
		case conflict != none:
			s.learn(s.consequence(conflict))
			continue descent
		}
		lit := choose()
		if lit == 0 {
			return api.OK
		}
		s.decide(lit)
	}
	return api.ErrMissing
}

// next returns the least variable without a value, or 0 if there is none.
func (s *solver) next() int {
	for ; s.least < len(s.values); s.least++ {
		s.work++
		if s.values[s.least] == 0 {
			return s.least
		}
	}
	return 0
}

// lowest chooses so that the first model is the least one: what is true in it without a decision follows from what is false before it.
func (s *solver) lowest() int {
	return -s.next()
}

// consequence returns, after a conflict by a clause that is false, another one that is false and follows by propagation. Only its first literal became false by the last decision, and the second one became false last among the others.
func (s *solver) consequence(conflict int) []int {
	clause := []int{0}
	var met []int
	open := 0 // literals by the last decision that have been met and not yet been replaced by what they follow from
	at := len(s.trail)
	for reason := conflict; ; reason = s.reasons[variable(s.trail[at])] {
		s.work += len(s.clauses[reason])
		for _, lit := range s.clauses[reason] {
			v := variable(lit)
			if s.met[v] || s.levels[v] == 0 {
				continue
			}
			s.met[v] = true
			met = append(met, v)
			if s.levels[v] == s.level() {
				open++
			} else {
				clause = append(clause, lit)
			}
		}
		for at--; !s.met[variable(s.trail[at])]; at-- {
		}
		open--
		if open == 0 {
			break
		}
	}
	for _, v := range met {
		s.met[v] = false
	}
	clause[0] = -s.trail[at]
	s.bringLast(clause[1:])
	return clause
}

// bringLast exchanges the first one of some literals with the one that became false last, if there are any.
func (s *solver) bringLast(lits []int) {
	for i, lit := range lits {
		if s.levels[variable(lit)] > s.levels[variable(lits[0])] {
			lits[0], lits[i] = lit, lits[0]
		}
	}
}

// learn adds a consequence. It goes back to where the first literal already follows from it.
func (s *solver) learn(clause []int) {
	s.learned(clause)
	if len(clause) == 1 {
		s.back(0)
		s.set(clause[0], none)
		return
	}
	s.back(s.levels[variable(clause[1])])
	s.set(clause[0], s.attach(clause))
	if len(s.clauses)-s.given > s.room {
		s.forget()
	}
}

// forget begins again without the longer half of the learned clauses, as each of them costs time. There is more room each time, and so at some time enough for all that can be learned.
func (s *solver) forget() {
	s.back(0)
	given, learned := s.clauses[:s.given], s.clauses[s.given:]
	slices.SortStableFunc(learned, func(a, b []int) int { return cmp.Compare(len(a), len(b)) })
	s.clauses = nil
	for i := range s.watches {
		s.watches[i] = s.watches[i][:0]
	}
	for _, clause := range given {
		s.add(clause)
	}
	s.given = len(s.clauses)
	for _, clause := range learned[:len(learned)/2] {
		s.add(clause)
	}
	s.room += moreRoom
}

// backbone returns the literals that are true in all models, after one has been found.
func (s *solver) backbone() ([]int, api.Code) {
	model := slices.Clone(s.values)
	left := slices.Clone(s.values) // by variables: the literal, if it may be true in all models
	for v := range left {
		lit := left[v]
		if lit == 0 {
			continue
		}
		s.back(0)
		code := s.search(func() int {
			switch {
			case s.values[v] == 0:
				return -lit
			case s.isTrue(lit):
				return 0 // without any decision
			}
			return -model[s.next()] // the more another model differs, the less is left
		})
		if code != api.OK {
			return nil, code
		}
		if s.isTrue(lit) {
			continue
		}
		for u, other := range s.values {
			if other != model[u] {
				left[u] = 0
			}
		}
	}
	return slices.DeleteFunc(left, func(lit int) bool { return lit == 0 }), api.OK
}
