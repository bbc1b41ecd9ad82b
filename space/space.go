// Package space looks at all assignments of a few variables at once, 64 of them by each operation on a word.
package space

import "math/bits"

// wordBits is the number of variables whose values the place of a bit in a word tells.
const wordBits = 6

// Space has all assignments of a few variables, each as a bit of a list of words: the variable with the index k is the bit k of the index of the assignment. If there are fewer variables than wordBits, each assignment is there several times.
type Space struct {
	indices []int // of the variables, by their numbers
	words   int
}

// New returns the space of all assignments of variables, which are in ascending order.
func New(vars []int) Space {
	if len(vars) == 0 {
		return Space{nil, 1}
	}
	s := Space{make([]int, vars[len(vars)-1]+1), 1}
	for k, v := range vars {
		s.indices[v] = k
		if k >= wordBits {
			s.words *= 2
		}
	}
	return s
}

// Words returns the number of words.
func (s Space) Words() int {
	return s.words
}

// Falsify calls visit for the assignments for which a clause is false: with the indices of their words, and with their bits.
func (s Space) Falsify(clause []int, visit func(word int, mask uint64)) {
	first, free, mask := s.where(clause)
	visit(first, mask)
	for rest := free & -free; rest != 0; rest = (rest - free) & free {
		visit(first|rest, mask)
	}
}

// Visits returns how often Falsify calls visit.
func (s Space) Visits(clause []int) int {
	_, free, _ := s.where(clause)
	return 1 << bits.OnesCount(uint(free))
}

// where returns where a clause is false: the index of the first word, the bits of the index that are free, and the bits of the word.
func (s Space) where(clause []int) (first, free int, mask uint64) {
	free, mask = s.words-1, ^uint64(0)
	for _, lit := range clause {
		k := s.indices[max(lit, -lit)]
		switch {
		case k >= wordBits && lit < 0:
			first |= 1 << (k - wordBits)
			free &^= 1 << (k - wordBits)
		case k >= wordBits:
			free &^= 1 << (k - wordBits)
		case lit < 0:
			mask &= whereTrue(k)
		default:
			mask &^= whereTrue(k)
		}
	}
	return first, free, mask
}

// whereTrue returns the bits of a word for which the variable with the index k is true.
func whereTrue(k int) uint64 {
	ones := [wordBits]uint64{0xaaaaaaaaaaaaaaaa, 0xcccccccccccccccc, 0xf0f0f0f0f0f0f0f0, 0xff00ff00ff00ff00, 0xffff0000ffff0000, 0xffffffff00000000}
	return ones[k]
}

// Project makes the last variables arbitrary: of the bits that differ in them alone, it returns the conjunction. words has a bit for each assignment, and is changed; the result is the part of it for the first variables, whose number is keep. All further bits are zero.
func Project(words []uint64, keep int) []uint64 {
	for len(words) > 1 && len(words) > 1<<max(0, keep-wordBits) {
		half := len(words) / 2
		for i, word := range words[half:] {
			words[i] &= word
		}
		words = words[:half]
	}
	for k := wordBits - 1; k >= keep; k-- {
		words[0] &= words[0] >> (1 << k)
	}
	return words
}
