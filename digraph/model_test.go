package digraph_test

import (
	"math"
	"math/rand"
	"slices"
	"testing"

	"keyhole/api"
	"keyhole/digraph"
)

// matrix reports for each two nodes whether something leads from the first to the second.
type matrix [][]bool

func matrixOf(n int, leads func(a, b int) bool) matrix {
	m := make(matrix, n)
	for a := range m {
		for b := range n {
			m[a] = append(m[a], leads(a, b))
		}
	}
	return m
}

// edgesOf returns the matrix of the edges of g.
func edgesOf(g api.Graph) matrix {
	return matrixOf(g.Nodes, func(a, b int) bool { return slices.Contains(g.Edges, [2]int{a, b}) })
}

// equal reports whether m and other are equal.
func (m matrix) equal(other matrix) bool {
	return slices.EqualFunc(m, other, slices.Equal[[]bool])
}

// converse returns the matrix of the opposite direction.
func (m matrix) converse() matrix {
	return matrixOf(len(m), func(a, b int) bool { return m[b][a] })
}

// list returns the pairs of m in ascending order.
func (m matrix) list() [][2]int {
	var pairs [][2]int
	for a := range m {
		for b := range m {
			if m[a][b] {
				pairs = append(pairs, [2]int{a, b})
			}
		}
	}
	return pairs
}

// paths returns for each length below the number of nodes the matrix of the paths of this length.
func (m matrix) paths() []matrix {
	list := []matrix{matrixOf(len(m), func(a, b int) bool { return a == b })}
	for len(list) < len(m) {
		shorter := list[len(list)-1]
		list = append(list, matrixOf(len(m), func(a, b int) bool {
			for c := range m {
				if shorter[a][c] && m[c][b] {
					return true
				}
			}
			return false
		}))
	}
	return list
}

// distances returns the least length of a path for each two nodes, or -1.
func (m matrix) distances() [][]int {
	paths, table := m.paths(), make([][]int, len(m))
	for a := range m {
		for b := range m {
			table[a] = append(table[a], slices.IndexFunc(paths, func(p matrix) bool { return p[a][b] }))
		}
	}
	return table
}

// reach returns the matrix of the paths of any length.
func (m matrix) reach() matrix {
	table := m.distances()
	return matrixOf(len(m), func(a, b int) bool { return table[a][b] >= 0 })
}

// classes returns the classes of mutual reachability, numbered in the order of their least nodes.
func (m matrix) classes() []int {
	reach, classes, count := m.reach(), []int{}, 0
	for a := range m {
		least := 0
		for !reach[a][least] || !reach[least][a] {
			least++
		}
		if least == a {
			classes = append(classes, count)
			count++
		} else {
			classes = append(classes, classes[least])
		}
	}
	return classes
}

// least returns the lexicographically least good list of length nodes that begins with begun, or nil.
func least(n, length int, begun []int, good func(list []int) bool) []int {
	if len(begun) == length {
		if good(begun) {
			return begun
		}
		return nil
	}
	for node := range n {
		if list := least(n, length, append(slices.Clone(begun), node), good); list != nil {
			return list
		}
	}
	return nil
}

// leastPath returns the lexicographically least path of length edges from a to b.
func (m matrix) leastPath(a, b, length int) []int {
	return least(len(m), length+1, []int{a}, func(list []int) bool {
		for i := range length {
			if !m[list[i]][list[i+1]] {
				return false
			}
		}
		return list[length] == b
	})
}

// leastOrder returns the lexicographically least permutation of the nodes in which every edge leads forward, or nil.
func (m matrix) leastOrder() []int {
	return least(len(m), len(m), []int{}, func(list []int) bool {
		for i, a := range list {
			for _, b := range list[:i+1] {
				if a == b && slices.Index(list, a) < i || m[a][b] {
					return false
				}
			}
		}
		return true
	})
}

// simple returns the graph with the edges of m in ascending order.
func (m matrix) simple() api.Graph {
	return api.Graph{Nodes: len(m), Edges: m.list()}
}

// same reports whether two graphs are equal to the letter.
func same(g, h api.Graph) bool {
	return g.Nodes == h.Nodes && slices.Equal(g.Edges, h.Edges)
}

// copyOf returns a copy of g.
func copyOf(g api.Graph) api.Graph {
	return api.Graph{Nodes: g.Nodes, Edges: slices.Clone(g.Edges)}
}

// mixed returns g with its edges in another order and some of them repeated.
func mixed(source *rand.Rand, g api.Graph) api.Graph {
	m := copyOf(g)
	for range len(g.Edges) {
		if source.Intn(2) == 0 {
			m.Edges = append(m.Edges, g.Edges[source.Intn(len(g.Edges))])
		}
	}
	source.Shuffle(len(m.Edges), func(i, j int) { m.Edges[i], m.Edges[j] = m.Edges[j], m.Edges[i] })
	return m
}

// randomGraph returns a graph in which each pair that may be an edge is one with the given percentage.
func randomGraph(source *rand.Rand, n, percent int, may func(a, b int) bool) api.Graph {
	return matrixOf(n, func(a, b int) bool { return may(a, b) && source.Intn(100) < percent }).simple()
}

// all returns all graphs with at most three nodes.
func all() []api.Graph {
	var graphs []api.Graph
	for n := range 4 {
		for bits := range 1 << (n * n) {
			graphs = append(graphs, matrixOf(n, func(a, b int) bool { return bits>>(a*n+b)&1 == 1 }).simple())
		}
	}
	return graphs
}

// samples returns all graphs with at most three nodes, and random ones with up to six, with edges in any order and with repetitions.
func samples() []api.Graph {
	source := rand.New(rand.NewSource(1))
	graphs := all()
	for i := range 1500 {
		n := 4 + i%3
		number := source.Perm(n)
		graphs = append(graphs,
			randomGraph(source, n, 5+source.Intn(60), func(a, b int) bool { return true }),
			randomGraph(source, n, 10+source.Intn(80), func(a, b int) bool { return number[a] < number[b] }))
	}
	for i, g := range graphs {
		graphs[i] = mixed(source, g)
	}
	return graphs
}

// each runs a check on every sample with its matrix.
func each(t *testing.T, check func(g api.Graph, m matrix)) {
	t.Helper()
	for _, g := range samples() {
		check(g, edgesOf(g))
	}
}

// startsOf returns lists of nodes: none, each node, and some lists in any order and with repetitions.
func startsOf(source *rand.Rand, n int) [][]int {
	lists := [][]int{nil, {}}
	for node := range n {
		lists = append(lists, []int{node})
	}
	for size := 2; size < 6 && n > 0; size++ {
		list := make([]int, size)
		for i := range list {
			list[i] = source.Intn(n)
		}
		lists = append(lists, list)
	}
	return lists
}

// refusal is a graph that is not valid, and the code that says so.
type refusal struct {
	name string
	g    api.Graph
	code api.Code
}

// refusals returns graphs that are not valid.
func refusals() []refusal {
	many := make([][2]int, digraph.MaxEdges+1)
	wrong := slices.Clone(many)
	wrong[0] = [2]int{-1, 9}
	return []refusal{
		{"-1 nodes", api.Graph{Nodes: -1}, api.ErrArgument},
		{"the least number of nodes", api.Graph{Nodes: math.MinInt}, api.ErrArgument},
		{"-1 nodes with an edge", api.Graph{Nodes: -1, Edges: [][2]int{{0, 0}}}, api.ErrArgument},
		{"-1 nodes with too many edges", api.Graph{Nodes: -1, Edges: many}, api.ErrArgument},
		{"4097 nodes", api.Graph{Nodes: 4097}, api.ErrLimit},
		{"the greatest number of nodes", api.Graph{Nodes: math.MaxInt}, api.ErrLimit},
		{"4097 nodes with a wrong edge", api.Graph{Nodes: 4097, Edges: [][2]int{{-1, 0}}}, api.ErrLimit},
		{"too many edges", api.Graph{Nodes: 1, Edges: many}, api.ErrLimit},
		{"too many edges with a wrong one", api.Graph{Nodes: 1, Edges: wrong}, api.ErrLimit},
		{"too many edges without nodes", api.Graph{Edges: many}, api.ErrLimit},
		{"an edge without nodes", api.Graph{Edges: [][2]int{{0, 0}}}, api.ErrRange},
		{"an edge to 3 of 3", api.Graph{Nodes: 3, Edges: [][2]int{{0, 1}, {1, 3}}}, api.ErrRange},
		{"an edge from 3 of 3", api.Graph{Nodes: 3, Edges: [][2]int{{3, 1}, {0, 1}}}, api.ErrRange},
		{"an edge to -1", api.Graph{Nodes: 3, Edges: [][2]int{{0, 1}, {0, -1}}}, api.ErrRange},
		{"an edge from -1", api.Graph{Nodes: 3, Edges: [][2]int{{-1, 1}}}, api.ErrRange},
		{"an edge at the ends of int", api.Graph{Nodes: 3, Edges: [][2]int{{math.MaxInt, math.MinInt}}}, api.ErrRange},
		{"a wrong loop", api.Graph{Nodes: 4096, Edges: [][2]int{{4096, 4096}}}, api.ErrRange},
	}
}
