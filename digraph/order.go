package digraph

import (
	"container/heap"

	"keyhole/api"
)

// least is a heap of nodes that gives out the least one.
type least []int

func (l least) Len() int           { return len(l) }
func (l least) Less(i, j int) bool { return l[i] < l[j] }
func (l least) Swap(i, j int)      { l[i], l[j] = l[j], l[i] }

// Push appends a node for package heap.
func (l *least) Push(x any) {
	if node, ok := x.(int); ok {
		*l = append(*l, node)
	}
}

// Pop removes the last node for package heap.
func (l *least) Pop() any {
	last := len(*l) - 1
	node := (*l)[last]
	*l = (*l)[:last]
	return node
}

// Order returns the lexicographically least topological order.
func Order(g api.Graph) ([]int, api.Code) {
	if code := Check(g); code != api.OK {
		return nil, code
	}
	nodes := order(successors(g))
	if len(nodes) < g.Nodes {
		return nil, api.ErrOrder
	}
	return nodes, api.OK
}

// order returns the lexicographically least topological order of the nodes that cannot be reached from a cycle.
func order(next [][]int) []int {
	waiting := make([]int, len(next)) // the number of predecessors of each node that are not in the order yet
	for _, list := range next {
		for _, successor := range list {
			waiting[successor]++
		}
	}
	var ready heap.Interface = &least{}
	for node, count := range waiting {
		if count == 0 {
			heap.Push(ready, node)
		}
	}
	var nodes []int
	for ready.Len() > 0 {
		node, ok := heap.Pop(ready).(int)
		if !ok {
			break
		}
		nodes = append(nodes, node)
		for _, successor := range next[node] {
			waiting[successor]--
			if waiting[successor] == 0 {
				heap.Push(ready, successor)
			}
		}
	}
	return nodes
}
