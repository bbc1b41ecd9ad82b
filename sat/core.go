package sat

import (
	"math/bits"
	"slices"

	"keyhole/api"
	"keyhole/cnf"
	"keyhole/space"
)

// haste is the work after which a search for the core of few variables is given up: about as much as it is to look at all assignments.
const haste = 1 << 22

// core returns the core of a formula that has no model.
func core(c api.Cnf) ([]int, api.Code) {
	vars := cnf.Occur(c.Clauses)
	if len(vars) > api.MaxSearch {
		return searchCore(c, patience)
	}
	if core, code := searchCore(c, haste); code == api.OK {
		return core, code
	}
	return spaceCore(space.New(vars), c.Clauses), api.OK
}

// searchCore finds the core by searches, which do not take more than some work. It tries to drop several clauses at once: if those behind them and those that stay have no model, then none of them is needed.
func searchCore(c api.Cnf, work int) ([]int, api.Code) {
	var core []int
	var stay [][]int
	step := 1
	for i := 0; i < len(c.Clauses); {
		step = min(step, len(c.Clauses)-i)
		s := newSolver(c.Vars, slices.Concat(stay, c.Clauses[i+step:]))
		s.patience = work
		code := s.search(s.lowest)
		work -= s.work
		switch {
		case code == api.ErrLimit:
			return nil, code
		case code == api.ErrMissing:
			i += step
			step *= 2
		case step > 1:
			step /= 2
		default:
			core = append(core, i)
			stay = append(stay, c.Clauses[i])
			i++
		}
	}
	return core, api.OK
}

// spaceCore returns the core of clauses of which one is false for each assignment. A clause must stay if, for some assignment, it is the last one that is false, and none is that stays before it.
func spaceCore(s space.Space, clauses [][]int) []int {
	last := lastFalse(s, clauses)
	staying := make([]uint64, s.Words()) // the assignments for which a clause is false that stays
	var core []int
	for i, clause := range clauses {
		if slices.ContainsFunc(last[i], func(a uint32) bool { return staying[a/64]>>(a%64)&1 == 0 }) {
			core = append(core, i)
			s.Falsify(clause, func(word int, mask uint64) { staying[word] |= mask })
		}
	}
	return core
}

// lastFalse returns for each clause the indices of the assignments for which it is the last one that is false.
func lastFalse(s space.Space, clauses [][]int) [][]uint32 {
	all := make([]uint32, 0, 64*s.Words())
	last := make([][]uint32, len(clauses))
	met := make([]uint64, s.Words())
	for i := len(clauses) - 1; i >= 0; i-- {
		begin := len(all)
		s.Falsify(clauses[i], func(word int, mask uint64) {
			for left := mask &^ met[word]; left != 0; left &= left - 1 {
				all = append(all, uint32(64*word+bits.TrailingZeros64(left)))
			}
			met[word] |= mask
		})
		last[i] = all[begin:]
	}
	return last
}
