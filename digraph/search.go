package digraph

import (
	"slices"

	"keyhole/api"
)

// Reach reports for each node whether it is reachable from one of the nodes from.
func Reach(g api.Graph, from []int) ([]bool, api.Code) {
	if code := checkNodes(g, from); code != api.OK {
		return nil, code
	}
	met := make([]bool, g.Nodes)
	flood(successors(g), from, met)
	return met, api.OK
}

// flood marks in met the nodes of from and all that are reachable from them without passing a node that is marked already. It returns the nodes that it marks.
func flood(next [][]int, from []int, met []bool) []int {
	var marked, stack []int
	meet := func(nodes []int) {
		for _, node := range nodes {
			if !met[node] {
				met[node] = true
				marked = append(marked, node)
				stack = append(stack, node)
			}
		}
	}
	meet(from)
	for len(stack) > 0 {
		node := stack[len(stack)-1]
		stack = stack[:len(stack)-1]
		meet(next[node])
	}
	return marked
}

// Distance returns for each node the number of edges of a shortest path from one of the nodes from, or -1.
func Distance(g api.Graph, from []int) ([]int, api.Code) {
	if code := checkNodes(g, from); code != api.OK {
		return nil, code
	}
	return distances(successors(g), from), api.OK
}

// distances returns the distance of each node from the nearest node of from, or -1.
func distances(next [][]int, from []int) []int {
	distance := make([]int, len(next))
	for node := range distance {
		distance[node] = -1
	}
	var queue []int
	meet := func(nodes []int, at int) {
		for _, node := range nodes {
			if distance[node] < 0 {
				distance[node] = at
				queue = append(queue, node)
			}
		}
	}
	meet(from, 0)
	for done := 0; done < len(queue); done++ {
		node := queue[done]
		meet(next[node], distance[node]+1)
	}
	return distance
}

// Path returns the nodes of the lexicographically least one of the shortest paths.
func Path(g api.Graph, from, to int) ([]int, api.Code) {
	if code := checkNodes(g, []int{from, to}); code != api.OK {
		return nil, code
	}
	next := successors(g)
	left := distances(predecessors(g), []int{to})
	if left[from] < 0 {
		return nil, api.ErrMissing
	}
	path := []int{from}
	for node := from; node != to; {
		// Successors are in ascending order: the first one that is nearer to the end is the least one.
		nearer := slices.IndexFunc(next[node], func(successor int) bool { return left[successor] == left[node]-1 })
		node = next[node][nearer]
		path = append(path, node)
	}
	return path, api.OK
}
