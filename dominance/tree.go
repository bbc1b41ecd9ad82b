package dominance

import "slices"

// tree returns the tree of dominators.
func (n network) tree() []int {
	order := n.order()
	c := newClimber(n, order)
	for isChanged := true; isChanged; {
		isChanged = false
		for _, node := range order[1:] {
			if above := c.above(node); above != c.up[node] {
				c.up[node] = above
				isChanged = true
			}
		}
	}
	return c.up
}

// climber finds dominators in the tree that is known so far, in which every dominator of a node stands above it.
type climber struct {
	network
	up    []int // the tree
	place []int // of each node in the order; every node comes after the one above it
	marks []int // the climb that passed each node last
	climb int
}

func newClimber(n network, order []int) *climber {
	size := len(n.next)
	c := &climber{network: n, up: slices.Repeat([]int{none}, size), place: make([]int, size), marks: make([]int, size)}
	for i, node := range order {
		c.place[node] = i
	}
	return c
}

// above returns the node at which the ways up from all nodes meet that are in the tree and from which an edge leads to the node.
func (c *climber) above(node int) int {
	c.climb++
	meeting := none
	for _, from := range c.previous[node] {
		isInTree := from == c.root || c.up[from] != none
		switch {
		case isInTree && meeting == none:
			meeting = from
		case isInTree:
			meeting = c.meet(from, meeting)
		}
	}
	return meeting
}

// meet returns the node at which the way up from a node meets the one from the meeting so far.
func (c *climber) meet(node, meeting int) int {
	for node != meeting {
		if c.place[node] < c.place[meeting] {
			meeting = c.up[meeting]
			continue
		}
		// Where this climb has been already, the way leads to the meeting: no node is passed twice.
		if c.marks[node] == c.climb {
			return meeting
		}
		c.marks[node] = c.climb
		node = c.up[node]
	}
	return meeting
}
