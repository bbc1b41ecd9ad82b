// Package bitset is layer 3, sets of integers from 0 to Size-1: see shared/doc/03-bitset.md.
package bitset

import (
	"math/bits"
	"slices"

	"keyhole/api"
)

// wordBits is the number of integers for which a word stands.
const wordBits = 64

// Valid reports whether s is a set.
func Valid(s api.Set) bool {
	if !isSize(s.Size) || len(s.Words) != wordsFor(s.Size) {
		return false
	}
	used := s.Size % wordBits
	return used == 0 || s.Words[len(s.Words)-1]>>used == 0
}

// isSize reports whether a set may have this size.
func isSize(size int) bool {
	return size >= 0 && size <= api.MaxSpace
}

// wordsFor returns the number of words of a set of this size.
func wordsFor(size int) int {
	return (size + wordBits - 1) / wordBits
}

// New returns the empty set of a size.
func New(size int) (api.Set, api.Code) {
	if !isSize(size) {
		return api.Set{}, api.ErrRange
	}
	return api.Set{Size: size, Words: make([]uint64, wordsFor(size))}, api.OK
}

// All returns the set of all integers from 0 to size-1.
func All(size int) (api.Set, api.Code) {
	empty, code := New(size)
	if code != api.OK {
		return api.Set{}, code
	}
	return Complement(empty)
}

// Of returns the set of the members.
func Of(size int, members []int) (api.Set, api.Code) {
	s, code := New(size)
	if code != api.OK {
		return api.Set{}, code
	}
	for _, i := range members {
		if i < 0 || i >= size {
			return api.Set{}, api.ErrRange
		}
		s.Words[i/wordBits] |= 1 << (i % wordBits)
	}
	return s, api.OK
}

// Has reports whether i is a member of s.
func Has(s api.Set, i int) bool {
	return Valid(s) && i >= 0 && i < s.Size && s.Words[i/wordBits]>>(i%wordBits)&1 == 1
}

// With returns s with the member i.
func With(s api.Set, i int) (api.Set, api.Code) {
	t, code := copyWith(s, i)
	if code != api.OK {
		return api.Set{}, code
	}
	t.Words[i/wordBits] |= 1 << (i % wordBits)
	return t, api.OK
}

// Without returns s without the member i.
func Without(s api.Set, i int) (api.Set, api.Code) {
	t, code := copyWith(s, i)
	if code != api.OK {
		return api.Set{}, code
	}
	t.Words[i/wordBits] &^= 1 << (i % wordBits)
	return t, api.OK
}

// copyWith returns a copy of s in which the integer i may become a member or cease to be one.
func copyWith(s api.Set, i int) (api.Set, api.Code) {
	if !Valid(s) {
		return api.Set{}, api.ErrArgument
	}
	if i < 0 || i >= s.Size {
		return api.Set{}, api.ErrRange
	}
	words := make([]uint64, len(s.Words))
	copy(words, s.Words)
	return api.Set{Size: s.Size, Words: words}, api.OK
}

// Union returns the integers that are members of a or of b.
func Union(a, b api.Set) (api.Set, api.Code) {
	return combine(a, b, func(x, y uint64) uint64 { return x | y })
}

// Intersect returns the integers that are members of a and of b.
func Intersect(a, b api.Set) (api.Set, api.Code) {
	return combine(a, b, func(x, y uint64) uint64 { return x & y })
}

// Minus returns the members of a that are not members of b.
func Minus(a, b api.Set) (api.Set, api.Code) {
	return combine(a, b, func(x, y uint64) uint64 { return x &^ y })
}

// combine returns the set whose words are made of the words of a and b.
func combine(a, b api.Set, merge func(x, y uint64) uint64) (api.Set, api.Code) {
	if !Valid(a) || !Valid(b) {
		return api.Set{}, api.ErrArgument
	}
	if a.Size != b.Size {
		return api.Set{}, api.ErrMismatch
	}
	words := make([]uint64, len(a.Words))
	for i := range len(words) {
		words[i] = merge(a.Words[i], b.Words[i])
	}
	return api.Set{Size: a.Size, Words: words}, api.OK
}

// Complement returns the integers from 0 to Size-1 that are not members of s.
func Complement(s api.Set) (api.Set, api.Code) {
	if !Valid(s) {
		return api.Set{}, api.ErrArgument
	}
	words := make([]uint64, len(s.Words))
	for i := range len(words) {
		words[i] = ^s.Words[i]
	}
	if used := s.Size % wordBits; used != 0 {
		words[len(words)-1] &= 1<<used - 1
	}
	return api.Set{Size: s.Size, Words: words}, api.OK
}

// Equal reports whether a and b are the same set of the same size.
func Equal(a, b api.Set) bool {
	return Valid(a) && Valid(b) && a.Size == b.Size && slices.Equal(a.Words, b.Words)
}

// Subset reports whether a and b have the same size and every member of a is a member of b.
func Subset(a, b api.Set) bool {
	if !Valid(a) || !Valid(b) || a.Size != b.Size {
		return false
	}
	for i, w := range a.Words {
		if w&^b.Words[i] != 0 {
			return false
		}
	}
	return true
}

// Count returns the number of members.
func Count(s api.Set) int {
	if !Valid(s) {
		return 0
	}
	count := 0
	for _, w := range s.Words {
		count += bits.OnesCount64(w)
	}
	return count
}

// Members returns the members in ascending order.
func Members(s api.Set) []int {
	members := make([]int, 0, Count(s))
	for i := Least(s); i >= 0; i = Next(s, i) {
		members = append(members, i)
	}
	return members
}

// Least returns the least member, or -1 if there is none.
func Least(s api.Set) int {
	return Next(s, -1)
}

// Next returns the least member that is greater than i, or -1 if there is none.
func Next(s api.Set, i int) int {
	if !Valid(s) || i >= s.Size {
		return -1
	}
	from := max(i+1, 0)
	for k := from / wordBits; k < len(s.Words); k++ {
		w := s.Words[k]
		if k == from/wordBits {
			w = w >> (from % wordBits) << (from % wordBits)
		}
		if w != 0 {
			return k*wordBits + bits.TrailingZeros64(w)
		}
	}
	return -1
}
