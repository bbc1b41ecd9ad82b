package sat

import (
	"math/bits"
	"slices"

	"keyhole/api"
	"keyhole/cnf"
)

// haste is the work after which a search for the core of few variables is given up: about as much as it is to look at all assignments.
const haste = 1 << 22

// core returns the core of a formula that has no model.
func core(c api.Cnf) ([]int, api.Code) {
	vars := cnf.Occur(c.Clauses)
	if len(vars) > api.MaxSearch {
		return searchCore(c, patience)
	}
	if core, code := searchCore(c, haste); code == api.OK {
		return core, code
	}
	return newSpace(vars).core(c.Clauses), api.OK
}

// searchCore finds the core by searches, which do not take more than some work. It tries to drop several clauses at once: if those behind them and those that stay have no model, then none of them is needed.
func searchCore(c api.Cnf, work int) ([]int, api.Code) {
	var core []int
	var stay [][]int
	step := 1
	for i := 0; i < len(c.Clauses); {
		step = min(step, len(c.Clauses)-i)
		s := newSolver(c.Vars, slices.Concat(stay, c.Clauses[i+step:]))
		s.patience = work
		code := s.search(s.lowest)
		work -= s.work
		switch {
		case code == api.ErrLimit:
			return nil, code
		case code == api.ErrMissing:
			i += step
			step *= 2
		case step > 1:
			step /= 2
		default:
			core = append(core, i)
			stay = append(stay, c.Clauses[i])
			i++
		}
	}
	return core, api.OK
}

// wordBits is the number of variables whose values the place of a bit in a word tells.
const wordBits = 6

// space has all assignments of a few variables, each as a bit of a list of words: the variable with the index k is the bit k of the index of the assignment. If there are fewer variables than wordBits, each assignment is there several times.
type space struct {
	indices map[int]int
	words   int
}

// newSpace returns the space of all assignments of variables.
func newSpace(vars []int) space {
	s := space{map[int]int{}, 1}
	for k, v := range vars {
		s.indices[v] = k
		if k >= wordBits {
			s.words *= 2
		}
	}
	return s
}

// falsify calls visit for the assignments for which a clause is false: with the indices of their words, and with their bits.
func (s space) falsify(clause []int, visit func(word int, mask uint64)) {
	first, free, mask := 0, s.words-1, ^uint64(0)
	for _, lit := range clause {
		k := s.indices[variable(lit)]
		switch {
		case k >= wordBits && lit < 0:
			first |= 1 << (k - wordBits)
			free &^= 1 << (k - wordBits)
		case k >= wordBits:
			free &^= 1 << (k - wordBits)
		case lit < 0:
			mask &= whereTrue(k)
		default:
			mask &^= whereTrue(k)
		}
	}
	visit(first, mask)
	for rest := free & -free; rest != 0; rest = (rest - free) & free {
		visit(first|rest, mask)
	}
}

// whereTrue returns the bits of a word for which the variable with the index k is true.
func whereTrue(k int) uint64 {
	ones := [wordBits]uint64{0xaaaaaaaaaaaaaaaa, 0xcccccccccccccccc, 0xf0f0f0f0f0f0f0f0, 0xff00ff00ff00ff00, 0xffff0000ffff0000, 0xffffffff00000000}
	return ones[k]
}

// core returns the core of clauses of which one is false for each assignment. A clause must stay if, for some assignment, it is the last one that is false, and none is that stays before it.
func (s space) core(clauses [][]int) []int {
	last := s.lastFalse(clauses)
	staying := make([]uint64, s.words) // the assignments for which a clause is false that stays
	var core []int
	for i, clause := range clauses {
		if slices.ContainsFunc(last[i], func(a uint32) bool { return staying[a/64]>>(a%64)&1 == 0 }) {
			core = append(core, i)
			s.falsify(clause, func(word int, mask uint64) { staying[word] |= mask })
		}
	}
	return core
}

// lastFalse returns for each clause the indices of the assignments for which it is the last one that is false.
func (s space) lastFalse(clauses [][]int) [][]uint32 {
	all := make([]uint32, 0, 64*s.words)
	last := make([][]uint32, len(clauses))
	met := make([]uint64, s.words)
	for i := len(clauses) - 1; i >= 0; i-- {
		begin := len(all)
		s.falsify(clauses[i], func(word int, mask uint64) {
			for left := mask &^ met[word]; left != 0; left &= left - 1 {
				all = append(all, uint32(64*word+bits.TrailingZeros64(left)))
			}
			met[word] |= mask
		})
		last[i] = all[begin:]
	}
	return last
}
