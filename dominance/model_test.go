package dominance_test

import (
	"math/rand"
	"slices"

	"keyhole/api"
)

// matrix says for each pair of nodes whether something holds of it.
type matrix [][]bool

func newMatrix(nodes int) matrix {
	m := make(matrix, nodes)
	for i := range m {
		m[i] = make([]bool, nodes)
	}
	return m
}

// edgesOf returns the edges of a graph.
func edgesOf(g api.Graph) matrix {
	m := newMatrix(g.Nodes)
	for _, edge := range g.Edges {
		m[edge[0]][edge[1]] = true
	}
	return m
}

func (m matrix) reversed() matrix {
	result := newMatrix(len(m))
	for a := range m {
		for b := range m {
			result[b][a] = m[a][b]
		}
	}
	return result
}

// reachable reports for each node whether it can be reached from the root on a path without a node.
func (m matrix) reachable(root, without int) []bool {
	met := make([]bool, len(m))
	if root == without {
		return met
	}
	met[root] = true
	queue := []int{root}
	for i := 0; i < len(queue); i++ {
		for b, isEdge := range m[queue[i]] {
			if isEdge && !met[b] && b != without {
				met[b] = true
				queue = append(queue, b)
			}
		}
	}
	return met
}

// dominators says which node dominates which: without it the other one cannot be reached.
func (m matrix) dominators(root int) matrix {
	result := newMatrix(len(m))
	all := m.reachable(root, -1)
	for a := range m {
		without := m.reachable(root, a)
		for b := range m {
			result[a][b] = all[b] && !without[b]
		}
	}
	return result
}

// treeModel returns the tree: the immediate dominator of b is dominated by all other dominators of b but b.
func treeModel(dominates matrix, root int) []int {
	tree := slices.Repeat([]int{-1}, len(dominates))
	for b := range tree {
		for a := range tree {
			isLast := a != b && dominates[a][b]
			for c := range tree {
				if isLast && c != b && dominates[c][b] && !dominates[c][a] {
					isLast = false
				}
			}
			if isLast && b != root {
				tree[b] = a
			}
		}
	}
	return tree
}

// frontierModel returns for each node a the nodes b such that a dominates a node from which an edge leads to b, but a does not dominate b, or a is b.
func (m matrix) frontierModel(dominates matrix) [][]int {
	lists := make([][]int, len(m))
	for a := range m {
		for b := range m {
			isBehind := false
			for c := range m {
				isBehind = isBehind || dominates[a][c] && m[c][b]
			}
			if isBehind && (!dominates[a][b] || a == b) {
				lists[a] = append(lists[a], b)
			}
		}
	}
	return lists
}

// controlModel returns the control dependences.
func (m matrix) controlModel(exit int) [][2]int {
	var pairs [][2]int
	post := m.reversed().dominators(exit)
	for a := range m {
		for b := range m {
			isAfter := false
			for c := range m {
				isAfter = isAfter || m[a][c] && post[b][c]
			}
			if isAfter && (!post[b][a] || a == b) {
				pairs = append(pairs, [2]int{a, b})
			}
		}
	}
	return pairs
}

// iteratedModel returns the least set that contains the frontiers of the nodes and of its own elements.
func iteratedModel(frontiers [][]int, nodes []int) []int {
	var found []int
	for size := -1; size < len(found); {
		size = len(found)
		for _, node := range slices.Concat(nodes, found) {
			found = append(found, frontiers[node]...)
		}
		slices.Sort(found)
		found = slices.Compact(found)
	}
	return found
}

// dominatesModel follows a list from b on, for at most as many moves as it has entries.
func dominatesModel(tree []int, a, b int) bool {
	var met []int
	for node := b; node >= 0 && node < len(tree) && len(met) <= len(tree); node = tree[node] {
		met = append(met, node)
	}
	return slices.Contains(met, a)
}

// randomGraph returns a graph that has, of all possible edges, so many in a hundred, in any order and some of them twice. It may have a path through all nodes.
func randomGraph(source *rand.Rand, nodes, percent int, hasPath bool) api.Graph {
	g := api.Graph{Nodes: nodes}
	for a := range nodes {
		if hasPath && a > 0 {
			g.Edges = append(g.Edges, [2]int{a - 1, a})
		}
		for b := range nodes {
			if source.Intn(100) < percent {
				g.Edges = append(g.Edges, [2]int{a, b})
			}
			if source.Intn(300) < percent {
				g.Edges = append(g.Edges, [2]int{a, b})
			}
		}
	}
	renamed := source.Perm(nodes)
	for i, edge := range g.Edges {
		g.Edges[i] = [2]int{renamed[edge[0]], renamed[edge[1]]}
	}
	source.Shuffle(len(g.Edges), func(i, k int) { g.Edges[i], g.Edges[k] = g.Edges[k], g.Edges[i] })
	return g
}

// each calls visit with graphs and a root: all graphs of at most 3 nodes, those of 4 nodes without edges from a node to itself, and random ones.
func each(visit func(g api.Graph, root int)) {
	for nodes := 1; nodes <= 4; nodes++ {
		var pairs [][2]int
		for i := range nodes * nodes {
			if a, b := i/nodes, i%nodes; nodes < 4 || a != b {
				pairs = append(pairs, [2]int{a, b})
			}
		}
		for set := range 1 << len(pairs) {
			g := api.Graph{Nodes: nodes}
			for i, pair := range pairs {
				if set>>i&1 == 1 {
					g.Edges = append(g.Edges, pair)
				}
			}
			for root := range nodes {
				visit(g, root)
			}
		}
	}
	source := rand.New(rand.NewSource(21))
	for i := range 3000 {
		g := randomGraph(source, 5+i%9, 1+i%23, i%3 == 0)
		visit(g, source.Intn(g.Nodes))
	}
	for i := range 20 {
		g := randomGraph(source, 40+i, 1+i%5, i%2 == 0)
		visit(g, source.Intn(g.Nodes))
	}
}
