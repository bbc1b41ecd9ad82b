package dominance

// frontiers returns the dominance frontier of each node, in ascending order.
func (n network) frontiers() [][]int {
	tree := n.tree()
	lists := make([][]int, len(tree))
	for node, above := range tree {
		for _, from := range n.previous[node] {
			if from != n.root && tree[from] == none {
				continue
			}
			// On the way up from there, only what stands above the node dominates it, too. Where the node has been added already,
			// it has been further up as well.
			for a := from; a != above && !endsWith(lists[a], node); a = tree[a] {
				lists[a] = append(lists[a], node)
			}
		}
	}
	return lists
}

func endsWith(list []int, node int) bool {
	return len(list) > 0 && list[len(list)-1] == node
}

// reached returns the set of the nodes that stand in the lists of the given nodes, or in those of its own nodes.
func reached(lists [][]int, given []bool) []bool {
	found := make([]bool, len(lists))
	open := members(given, itself)
	for len(open) > 0 {
		node := open[len(open)-1]
		open = open[:len(open)-1]
		for _, other := range lists[node] {
			if !found[other] {
				found[other] = true
				open = append(open, other)
			}
		}
	}
	return found
}

// converse returns for each node the set of the nodes in whose lists it stands.
func converse(lists [][]int) [][]bool {
	sets := make([][]bool, len(lists))
	for node, list := range lists {
		for _, other := range list {
			if sets[other] == nil {
				sets[other] = make([]bool, len(lists))
			}
			sets[other][node] = true
		}
	}
	return sets
}

// members returns what form makes of the nodes of a set, in ascending order.
func members[T any](set []bool, form func(node int) T) []T {
	var result []T
	for node, isMember := range set {
		if isMember {
			result = append(result, form(node))
		}
	}
	return result
}

func itself(node int) int {
	return node
}
