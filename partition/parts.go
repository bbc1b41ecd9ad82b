package partition

import (
	"keyhole/api"
	"keyhole/bitset"
)

// Branches returns the number of classes of p that have an element of s.
func Branches(p []int, s api.Set) (int, api.Code) {
	if code := checkSet(p, s); code != api.OK {
		return 0, code
	}
	met := make([]bool, Count(p))
	branches := 0
	for _, i := range bitset.Members(s) {
		if !met[p[i]] {
			met[p[i]] = true
			branches++
		}
	}
	return branches, api.OK
}

// Part returns the set of the elements of s that are in the class c of p.
func Part(p []int, s api.Set, c int) (api.Set, api.Code) {
	if code := checkSet(p, s); code != api.OK {
		return api.Set{}, code
	}
	if c < 0 || c >= Count(p) {
		return api.Set{}, api.ErrRange
	}
	class, code := bitset.Of(s.Size, Class(p, c))
	if code != api.OK {
		return api.Set{}, code
	}
	return bitset.Intersect(s, class)
}

// checkSet returns OK if s is a set of elements of the partition p.
func checkSet(p []int, s api.Set) api.Code {
	if !Valid(p) || !bitset.Valid(s) {
		return api.ErrArgument
	}
	if s.Size != len(p) {
		return api.ErrMismatch
	}
	return api.OK
}
