package mincut

import (
	"slices"

	"keyhole/api"
)

// division is a division of the flow of a network into paths.
type division struct {
	*network
	sent  []int   // the part of the flow in each arc that is not divided yet
	rest  [][]int // the arcs of each vertex in which there may be such a part
	place []int   // the number of arcs of the present walk before each of its vertices, -1 for other vertices
}

// flows divides the flow into paths without repeated nodes.
func (n *network) flows() []api.Flow {
	d := &division{network: n, sent: make([]int, len(n.heads)), rest: slices.Clone(n.leaving), place: make([]int, len(n.leaving))}
	for arc := range d.sent {
		d.sent[arc] = max(n.capacity[arc]-n.room[arc], 0)
	}
	for vertex := range d.place {
		d.place[vertex] = -1
	}
	var flows []api.Flow
	for d.find(n.source) {
		walk := d.walk()
		flows = append(flows, api.Flow{Path: n.nodes(walk), Amount: d.take(walk)})
	}
	return flows
}

// find reports whether flow leaves the vertex, by the first arc of its rest then.
func (d *division) find(vertex int) bool {
	for len(d.rest[vertex]) > 0 && d.sent[d.rest[vertex][0]] == 0 {
		d.rest[vertex] = d.rest[vertex][1:]
	}
	return len(d.rest[vertex]) > 0
}

// walk follows the flow from the source to the sink, and returns the arcs of a path. It takes flow that runs in circles out of the division.
func (d *division) walk() []int {
	var walk []int
	for at := d.source; at != d.sink && d.find(at); {
		d.place[at] = len(walk)
		arc := d.rest[at][0]
		walk = append(walk, arc)
		at = d.heads[arc]
		if start := d.place[at]; start >= 0 {
			d.take(walk[start:])
			d.forget(walk[start:])
			walk = walk[:start]
		}
	}
	d.forget(walk)
	return walk
}

// forget takes the vertices that the arcs leave from the present walk.
func (d *division) forget(arcs []int) {
	for _, arc := range arcs {
		d.place[d.heads[arc^1]] = -1
	}
}

// take takes as much as flows in all of these arcs out of the division, and returns how much that is.
func (d *division) take(arcs []int) int {
	amount := api.Never
	for _, arc := range arcs {
		amount = min(amount, d.sent[arc])
	}
	for _, arc := range arcs {
		d.sent[arc] -= amount
	}
	return amount
}

// nodes returns the nodes whose entries are among the vertices to which these arcs lead.
func (n *network) nodes(arcs []int) []int {
	var nodes []int
	for _, arc := range arcs {
		if head := n.heads[arc]; head%2 == 0 {
			nodes = append(nodes, head/2)
		}
	}
	return nodes
}
