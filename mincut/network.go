package mincut

import (
	"slices"

	"keyhole/api"
	"keyhole/digraph"
)

// network is a graph of which each node is an arc from its entry to its exit with the weight as capacity. A source leads to the entries of the first list, the exits of the second list lead to a sink.
type network struct {
	size         int // the number of nodes
	source, sink int
	heads        []int   // the vertex to which each arc leads; the arc a^1 is the arc a backwards
	capacity     []int   // of each arc; 0 for those that lead backwards
	room         []int   // what each arc may still carry
	leaving      [][]int // the arcs that leave each vertex
}

// entry returns the vertex at which paths enter a node.
func entry(node int) int { return 2 * node }

// exit returns the vertex at which paths leave a node.
func exit(node int) int { return 2*node + 1 }

// networkOf returns the network, in which nothing flows yet, of a graph and weights that are valid.
func networkOf(g api.Graph, weight, from, to []int) *network {
	next, _ := digraph.Successors(g)
	source, sink := 2*g.Nodes, 2*g.Nodes+1
	n := &network{size: g.Nodes, source: source, sink: sink, leaving: make([][]int, sink+1)}
	starts, ends := members(g, from), members(g, to)
	for node, list := range next {
		if weight[node] < 0 {
			n.link(entry(node), exit(node), api.Never)
		} else {
			n.link(entry(node), exit(node), weight[node])
		}
		for _, successor := range list {
			n.link(exit(node), entry(successor), api.Never)
		}
		if starts[node] {
			n.link(n.source, entry(node), api.Never)
		}
		if ends[node] {
			n.link(exit(node), n.sink, api.Never)
		}
	}
	n.room = make([]int, len(n.capacity))
	copy(n.room, n.capacity)
	return n
}

// link adds an arc and the same arc backwards.
func (n *network) link(tail, head, capacity int) {
	arc := len(n.heads)
	n.leaving[tail] = append(n.leaving[tail], arc)
	n.leaving[head] = append(n.leaving[head], arc+1)
	n.heads = append(n.heads, head, tail)
	n.capacity = append(n.capacity, capacity, 0)
}

// fill makes the flow as great as possible by Dinic's algorithm, and returns the nodes of a cut that it fills, in ascending order.
func (n *network) fill() []int {
	levels := n.levels()
	for levels[n.sink] >= 0 {
		n.block(levels)
		levels = n.levels()
	}
	var cut []int
	for node := range n.size {
		if levels[entry(node)] >= 0 && levels[exit(node)] < 0 {
			cut = append(cut, node)
		}
	}
	return cut
}

// levels returns for each vertex the least number of arcs with room that lead to it from the source, or -1. If the sink can be reached, it may be -1 for vertices that are not nearer than the sink.
func (n *network) levels() []int {
	levels := make([]int, len(n.leaving))
	for vertex := range levels {
		levels[vertex] = -1
	}
	levels[n.source] = 0
	queue := []int{n.source}
	for done := 0; done < len(queue) && levels[n.sink] < 0; done++ {
		for _, arc := range n.leaving[queue[done]] {
			if head := n.heads[arc]; levels[head] < 0 && n.room[arc] > 0 {
				levels[head] = levels[queue[done]] + 1
				queue = append(queue, head)
			}
		}
	}
	return levels
}

// block sends as much as it can along arcs that lead from a level to the next one.
func (n *network) block(levels []int) {
	rest := slices.Clone(n.leaving) // the arcs of each vertex that may still lead to the sink
	var path []int
	for at := n.source; ; {
		if at == n.sink {
			full := n.send(path)
			at = n.heads[path[full]^1]
			path = path[:full]
		}
		if len(rest[at]) == 0 {
			if at == n.source {
				return
			}
			last := len(path) - 1
			at = n.heads[path[last]^1]
			rest[at] = rest[at][1:]
			path = path[:last]
			continue
		}
		arc := rest[at][0]
		if levels[n.heads[arc]] == levels[at]+1 && n.room[arc] > 0 {
			path = append(path, arc)
			at = n.heads[arc]
		} else {
			rest[at] = rest[at][1:]
		}
	}
}

// send sends as much as it can along the arcs of path, and returns the index of the first arc that has no room then.
func (n *network) send(path []int) (full int) {
	amount := n.room[path[0]]
	for i, arc := range path {
		if n.room[arc] < amount {
			amount, full = n.room[arc], i
		}
	}
	for _, arc := range path {
		n.room[arc] -= amount
		n.room[arc^1] += amount
	}
	return full
}
