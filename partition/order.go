package partition

import "keyhole/api"

// Meet returns the partition in which elements are together if they are together in p and in q.
func Meet(p, q []int) ([]int, api.Code) {
	if code := checkPair(p, q); code != api.OK {
		return nil, code
	}
	labels := make([]int, len(p))
	count := Count(q)
	for i := range labels {
		labels[i] = p[i]*count + q[i]
	}
	return Of(labels), api.OK
}

// Join returns the partition with the most classes among those that p and q refine.
func Join(p, q []int) ([]int, api.Code) {
	if code := checkPair(p, q); code != api.OK {
		return nil, code
	}
	// A class of p links to one that is together with it in the join, or to itself.
	links := make([]int, Count(p))
	for c := range links {
		links[c] = c
	}
	root := func(c int) int {
		for links[c] != c {
			// A link that skips a class keeps the ways to the roots short.
			links[c] = links[links[c]]
			c = links[c]
		}
		return c
	}
	var firsts []int
	for i, c := range q {
		if c == len(firsts) {
			firsts = append(firsts, p[i])
		}
		links[root(p[i])] = root(firsts[c])
	}
	labels := make([]int, len(p))
	for i, c := range p {
		labels[i] = root(c)
	}
	return Of(labels), api.OK
}

// Refines reports whether elements that are together in p are together in q.
func Refines(p, q []int) (bool, api.Code) {
	if code := checkPair(p, q); code != api.OK {
		return false, code
	}
	var images []int
	for i, c := range p {
		if c == len(images) {
			images = append(images, q[i])
		}
		if images[c] != q[i] {
			return false, api.OK
		}
	}
	return true, api.OK
}

// checkPair returns OK if p and q are partitions of the same elements.
func checkPair(p, q []int) api.Code {
	if !Valid(p) || !Valid(q) {
		return api.ErrArgument
	}
	if len(p) != len(q) {
		return api.ErrMismatch
	}
	return api.OK
}
