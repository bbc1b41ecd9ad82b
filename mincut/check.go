package mincut

import (
	"slices"

	"keyhole/api"
	"keyhole/digraph"
)

// Check reports whether cut is a cut of the least weight, as flows prove.
func Check(g api.Graph, weight []int, from, to, cut []int, flows []api.Flow) api.Code {
	if code := checkWeights(g, weight, from, to); code != api.OK {
		return code
	}
	total, ok := weigh(weight, cut)
	// Only after this the amounts cannot overflow: every path contains a node of the cut, whose weight bounds its amount.
	if !ok || !separates(g, from, to, cut) {
		return api.ErrProof
	}
	sent, ok := amount(g, weight, from, to, flows)
	if !ok || sent != total {
		return api.ErrProof
	}
	return api.OK
}

// weigh returns the weight of cut, and whether it is a strictly ascending list of nodes that can be cut.
func weigh(weight, cut []int) (total int, ok bool) {
	last := -1
	for _, node := range cut {
		if node <= last || node >= len(weight) || weight[node] < 0 {
			return 0, false
		}
		last = node
		total += weight[node]
	}
	return total, true
}

// amount returns the amount of all flows, and whether they are admissible.
func amount(g api.Graph, weight, from, to []int, flows []api.Flow) (sent int, ok bool) {
	next, code := digraph.Successors(g)
	if code != api.OK {
		return 0, false
	}
	starts, ends := members(g, from), members(g, to)
	room := make([]int, len(weight)) // what each node may still carry
	copy(room, weight)
	for _, flow := range flows {
		if flow.Amount < 1 || !isPath(next, starts, ends, flow.Path) {
			return 0, false
		}
		for _, node := range flow.Path {
			if weight[node] < 0 {
				continue
			}
			if flow.Amount > room[node] {
				return 0, false
			}
			room[node] -= flow.Amount
		}
		sent += flow.Amount
	}
	return sent, true
}

// isPath reports whether path is a path from one of the starts to one of the ends that contains no node twice.
func isPath(next [][]int, starts, ends []bool, path []int) bool {
	if len(path) == 0 || len(path) > len(next) {
		return false
	}
	met := make(map[int]bool, len(path))
	for i, node := range path {
		if node < 0 || node >= len(next) || met[node] {
			return false
		}
		met[node] = true
		if i == 0 {
			continue
		}
		if _, edge := slices.BinarySearch(next[path[i-1]], node); !edge {
			return false
		}
	}
	return starts[path[0]] && ends[path[len(path)-1]]
}
