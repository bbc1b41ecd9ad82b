package digraph

import (
	"slices"

	"keyhole/api"
)

// Components returns the partition of the nodes into strongly connected components.
func Components(g api.Graph) ([]int, api.Code) {
	if code := Check(g); code != api.OK {
		return nil, code
	}
	classes, _ := components(g)
	return classes, api.OK
}

// components returns the class of each node of the graph g, and the number of classes.
func components(g api.Graph) (classes []int, count int) {
	classes = make([]int, g.Nodes)
	next, previous, met := successors(g), predecessors(g), make([]bool, g.Nodes)
	// The node that a search left last reaches, among those that are not divided yet, whatever reaches it: Kosaraju's algorithm.
	for _, root := range slices.Backward(leaving(next)) {
		for _, node := range flood(previous, []int{root}, met) {
			classes[node] = root
		}
	}
	return numbered(classes)
}

// leaving returns all nodes in the order in which a depth-first search leaves them.
func leaving(next [][]int) []int {
	var left, stack []int
	met := make([]bool, len(next))
	rest := slices.Clone(next) // the successors of each node that the search has not followed yet
	for root := range next {
		if met[root] {
			continue
		}
		met[root] = true
		stack = append(stack, root)
		for len(stack) > 0 {
			node := stack[len(stack)-1]
			if len(rest[node]) == 0 {
				stack = stack[:len(stack)-1]
				left = append(left, node)
				continue
			}
			successor := rest[node][0]
			rest[node] = rest[node][1:]
			if !met[successor] {
				met[successor] = true
				stack = append(stack, successor)
			}
		}
	}
	return left
}

// numbered returns the classes, each of which is named by one of its nodes, numbered in the order of their least nodes, and their number.
func numbered(classes []int) (result []int, count int) {
	numbers := make([]int, len(classes))
	for i := range numbers {
		numbers[i] = -1
	}
	result = make([]int, len(classes))
	for node, class := range classes {
		if numbers[class] < 0 {
			numbers[class] = count
			count++
		}
		result[node] = numbers[class]
	}
	return result, count
}

// Condense returns the graph of the strongly connected components.
func Condense(g api.Graph) (api.Graph, api.Code) {
	if code := Check(g); code != api.OK {
		return api.Graph{}, code
	}
	classes, count := components(g)
	return graphOf(condensed(g, classes, count)), api.OK
}

// condensed returns for each class the other classes to which edges of the graph g lead from it, in ascending order, each once.
func condensed(g api.Graph, classes []int, count int) [][]int {
	between := api.Graph{Nodes: count}
	for _, edge := range g.Edges {
		if from, to := classes[edge[0]], classes[edge[1]]; from != to {
			between.Edges = append(between.Edges, [2]int{from, to})
		}
	}
	return successors(between)
}

// Closure reports for each pair of nodes whether there is a path from the first to the second.
func Closure(g api.Graph) ([][]bool, api.Code) {
	if code := Check(g); code != api.OK {
		return nil, code
	}
	classes, count := components(g)
	masks := reachable(condensed(g, classes, count))
	rows := make([][]bool, g.Nodes)
	for node := range rows {
		mask := masks[classes[node]]
		rows[node] = make([]bool, g.Nodes)
		for other, class := range classes {
			rows[node][other] = mask[class/64]>>(class%64)&1 == 1
		}
	}
	return rows, api.OK
}

// reachable returns for each node of a graph without cycles a mask of the nodes that are reachable from it: bit i%64 of word i/64 is 1 if i is.
func reachable(next [][]int) [][]uint64 {
	masks := make([][]uint64, len(next))
	for _, node := range slices.Backward(order(next)) {
		mask := make([]uint64, (len(next)+63)/64)
		mask[node/64] |= 1 << (node % 64)
		for _, successor := range next[node] {
			for i, word := range masks[successor] {
				mask[i] |= word
			}
		}
		masks[node] = mask
	}
	return masks
}
