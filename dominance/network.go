package dominance

import (
	"slices"

	"keyhole/api"
	"keyhole/digraph"
)

// none stands in a tree where there is no immediate dominator.
const none = -1

// network is a graph with a root: the nodes to which edges lead from each node, and those from which edges lead to it.
type network struct {
	root           int
	next, previous [][]int
}

func networkOf(g api.Graph, root int) (network, api.Code) {
	next, code := digraph.Successors(g)
	if code != api.OK {
		return network{}, code
	}
	if !isNode(g.Nodes, root) {
		return network{}, api.ErrRange
	}
	backwards, _ := digraph.Reverse(g)
	previous, _ := digraph.Successors(backwards)
	return network{root, next, previous}, api.OK
}

// isNode reports whether a graph with so many nodes has the node.
func isNode(nodes, node int) bool {
	return node >= 0 && node < nodes
}

// reversed returns the network in which all edges have the opposite direction.
func (n network) reversed() network {
	return network{n.root, n.previous, n.next}
}

// order returns the nodes that the root reaches in reverse postorder: each node but the root comes after one from which an edge
// leads to it, and if no cycle contains it, after all of them.
func (n network) order() []int {
	var order []int
	met := make([]bool, len(n.next))
	var visit func(node int)
	visit = func(node int) {
		met[node] = true
		for _, successor := range n.next[node] {
			if !met[successor] {
				visit(successor)
			}
		}
		order = append(order, node)
	}
	visit(n.root)
	slices.Reverse(order)
	return order
}
