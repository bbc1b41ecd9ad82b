package digraph_test

import (
	"math/rand"
	"slices"
	"testing"

	"keyhole/api"
	"keyhole/digraph"
)

// checkClasses compares Components, Condense and Closure of g, whose edges are m, with their definitions.
func checkClasses(t *testing.T, g api.Graph, m matrix) {
	t.Helper()
	classes := m.classes()
	if got, code := digraph.Components(g); code != api.OK || !slices.Equal(got, classes) {
		t.Fatalf("Components(%v) = %v, %d, want %v", g, got, code, classes)
	}
	count := 0
	for _, class := range classes {
		count = max(count, class+1)
	}
	between := matrixOf(count, func(c, d int) bool {
		return c != d && slices.ContainsFunc(g.Edges, func(edge [2]int) bool { return classes[edge[0]] == c && classes[edge[1]] == d })
	})
	condensed, code := digraph.Condense(g)
	if code != api.OK || !same(condensed, between.simple()) {
		t.Fatalf("Condense(%v) = %v, %d, want %v", g, condensed, code, between.simple())
	}
	closure, code := digraph.Closure(g)
	if code != api.OK || !matrix(closure).equal(m.reach()) {
		t.Fatalf("Closure(%v) = %v, %d", g, closure, code)
	}
}

func TestP6_6Components(t *testing.T) {
	each(t, func(g api.Graph, m matrix) { checkClasses(t, g, m) })
	source := rand.New(rand.NewSource(8))
	for i := range 60 {
		g := randomGraph(source, 20, 2+i%8, func(a, b int) bool { return true })
		checkClasses(t, mixed(source, g), edgesOf(g))
	}
}

func TestP6_7Condense(t *testing.T) {
	each(t, func(g api.Graph, m matrix) {
		classes, code := digraph.Components(g)
		if code != api.OK {
			t.Fatalf("Components(%v) has code %d", g, code)
		}
		condensed, code := digraph.Condense(g)
		if code != api.OK {
			t.Fatalf("Condense(%v) has code %d", g, code)
		}
		if _, code := digraph.Order(condensed); code != api.OK {
			t.Fatalf("Condense(%v) = %v has a cycle", g, condensed)
		}
		within, reach := edgesOf(condensed).reach(), m.reach()
		for a := range m {
			for b := range m {
				if within[classes[a]][classes[b]] != reach[a][b] {
					t.Fatalf("Condense(%v) = %v with the classes %v", g, condensed, classes)
				}
			}
		}
	})
}

func TestP6_8Closure(t *testing.T) {
	source := rand.New(rand.NewSource(9))
	for _, n := range []int{0, 1, 2, 6, 63, 64, 65, 128, 200} {
		for _, percent := range []int{0, 1, 2, 20} {
			g := randomGraph(source, n, percent, func(a, b int) bool { return true })
			rows, code := digraph.Closure(mixed(source, g))
			if code != api.OK || len(rows) != n {
				t.Fatalf("Closure of %d nodes has %d rows, code %d", n, len(rows), code)
			}
			for a := range n {
				if reach, code := digraph.Reach(g, []int{a}); code != api.OK || !slices.Equal(rows[a], reach) || !rows[a][a] {
					t.Fatalf("Closure(%v) has the row %v at %d", g, rows[a], a)
				}
				for b := range n {
					for c := range n {
						if rows[a][b] && rows[b][c] && !rows[a][c] {
							t.Fatalf("Closure(%v) is not transitive", g)
						}
					}
				}
			}
		}
	}
}

// upTo returns the numbers from 0 to n-1.
func upTo(n int) []int {
	list := make([]int, n)
	for i := range list {
		list[i] = i
	}
	return list
}

// chain returns the graph in which an edge leads from each node of the list to the next one.
func chain(list []int) api.Graph {
	g := api.Graph{Nodes: len(list)}
	for i := range len(list) - 1 {
		g.Edges = append(g.Edges, [2]int{list[i], list[i+1]})
	}
	return g
}

// TestP6_2LongChain asks everything about chains with as many nodes as a graph may have.
func TestP6_2LongChain(t *testing.T) {
	forward, backward := upTo(digraph.MaxNodes), upTo(digraph.MaxNodes)
	slices.Reverse(backward)
	for _, list := range [][]int{forward, backward, rand.New(rand.NewSource(10)).Perm(digraph.MaxNodes)} {
		g, n := chain(list), len(list)
		distance, code := digraph.Distance(g, list[:1])
		if code != api.OK || distance[list[n-1]] != n-1 || distance[list[n/2]] != n/2 {
			t.Errorf("Distance has code %d", code)
		}
		if reach, code := digraph.Reach(g, []int{list[n/2]}); code != api.OK || !reach[list[n-1]] || reach[list[n/2-1]] {
			t.Errorf("Reach has code %d", code)
		}
		if path, code := digraph.Path(g, list[0], list[n-1]); code != api.OK || !slices.Equal(path, list) {
			t.Errorf("Path has code %d", code)
		}
		if order, code := digraph.Order(g); code != api.OK || !slices.Equal(order, list) {
			t.Errorf("Order has code %d", code)
		}
		if classes, code := digraph.Components(g); code != api.OK || !slices.Equal(classes, forward) {
			t.Errorf("Components has code %d", code)
		}
		closure, code := digraph.Closure(g)
		if code != api.OK || !closure[list[0]][list[n-1]] || closure[list[n-1]][list[0]] || closure[list[1]][list[0]] || !closure[list[n/2]][list[n/2+1]] {
			t.Errorf("Closure has code %d", code)
		}
	}
}

// TestP6_6LongCycle closes a chain with as many nodes as a graph may have.
func TestP6_6LongCycle(t *testing.T) {
	list := rand.New(rand.NewSource(11)).Perm(digraph.MaxNodes)
	g := chain(list)
	g.Edges = append(g.Edges, [2]int{list[len(list)-1], list[0]})
	if classes, code := digraph.Components(g); code != api.OK || !slices.Equal(classes, make([]int, len(list))) {
		t.Errorf("Components has code %d", code)
	}
	if condensed, code := digraph.Condense(g); code != api.OK || !same(condensed, api.Graph{Nodes: 1}) {
		t.Errorf("Condense has code %d", code)
	}
	if order, code := digraph.Order(g); code != api.ErrOrder || len(order) > 0 {
		t.Errorf("Order has code %d", code)
	}
	closure, code := digraph.Closure(g)
	if code != api.OK || slices.ContainsFunc(closure, func(row []bool) bool { return slices.Contains(row, false) }) {
		t.Errorf("Closure has code %d", code)
	}
}

// TestP6_8ManyEdges asks everything about a graph with as many nodes and edges as a graph may have, which all lead to greater nodes.
func TestP6_8ManyEdges(t *testing.T) {
	source := rand.New(rand.NewSource(12))
	g := api.Graph{Nodes: digraph.MaxNodes}
	for range digraph.MaxEdges {
		a, b := source.Intn(g.Nodes-1), source.Intn(g.Nodes-1)
		g.Edges = append(g.Edges, [2]int{min(a, b), max(a, b) + 1})
	}
	simple, code := digraph.Simple(g)
	want := slices.Clone(g.Edges)
	slices.SortFunc(want, func(x, y [2]int) int { return slices.Compare(x[:], y[:]) })
	if code != api.OK || !slices.Equal(simple.Edges, slices.Compact(want)) {
		t.Errorf("Simple has %d edges, code %d", len(simple.Edges), code)
	}
	if order, code := digraph.Order(g); code != api.OK || !slices.Equal(order, upTo(g.Nodes)) {
		t.Errorf("Order has code %d", code)
	}
	if classes, code := digraph.Components(g); code != api.OK || !slices.Equal(classes, upTo(g.Nodes)) {
		t.Errorf("Components has code %d", code)
	}
	if condensed, code := digraph.Condense(g); code != api.OK || !same(condensed, simple) {
		t.Errorf("Condense has code %d", code)
	}
	closure, code := digraph.Closure(g)
	if code != api.OK {
		t.Fatalf("Closure has code %d", code)
	}
	for _, node := range []int{0, 1, 63, 64, 65, 2000, 4000, 4094, 4095} {
		if reach, code := digraph.Reach(g, []int{node}); code != api.OK || !slices.Equal(closure[node], reach) {
			t.Errorf("Closure differs from Reach at %d, code %d", node, code)
		}
	}
}

func TestExamples(t *testing.T) {
	g := api.Graph{Nodes: 4, Edges: [][2]int{{0, 1}, {1, 2}, {2, 1}, {0, 3}}}
	if classes, code := digraph.Components(g); code != api.OK || !slices.Equal(classes, []int{0, 1, 1, 2}) {
		t.Errorf("Components = %v, %d", classes, code)
	}
	if condensed, code := digraph.Condense(g); code != api.OK || !same(condensed, api.Graph{Nodes: 3, Edges: [][2]int{{0, 1}, {0, 2}}}) {
		t.Errorf("Condense = %v, %d", condensed, code)
	}
	if order, code := digraph.Order(g); code != api.ErrOrder || len(order) > 0 {
		t.Errorf("Order = %v, %d", order, code)
	}
	g = api.Graph{Nodes: 4, Edges: [][2]int{{2, 0}, {2, 1}, {1, 3}}}
	if order, code := digraph.Order(g); code != api.OK || !slices.Equal(order, []int{2, 0, 1, 3}) {
		t.Errorf("Order = %v, %d", order, code)
	}
	if distance, code := digraph.Distance(g, []int{2}); code != api.OK || !slices.Equal(distance, []int{1, 1, 0, 2}) {
		t.Errorf("Distance = %v, %d", distance, code)
	}
	if path, code := digraph.Path(g, 2, 3); code != api.OK || !slices.Equal(path, []int{2, 1, 3}) {
		t.Errorf("Path = %v, %d", path, code)
	}
	if path, code := digraph.Path(g, 0, 3); code != api.ErrMissing || len(path) > 0 {
		t.Errorf("Path = %v, %d", path, code)
	}
}

// TestMemory expects that arguments stay as they are, and that results share no memory with them or with each other.
func TestMemory(t *testing.T) {
	g := api.Graph{Nodes: 4, Edges: [][2]int{{2, 3}, {0, 1}, {0, 1}, {1, 2}, {2, 1}, {0, 3}}}
	from := []int{2, 0, 2}
	before, results := copyOf(g), func() []any {
		simple, _ := digraph.Simple(g)
		reverse, _ := digraph.Reverse(g)
		successors, _ := digraph.Successors(g)
		reach, _ := digraph.Reach(g, from)
		distance, _ := digraph.Distance(g, from)
		path, _ := digraph.Path(g, 0, 2)
		components, _ := digraph.Components(g)
		condensed, _ := digraph.Condense(g)
		closure, _ := digraph.Closure(g)
		return []any{simple.Edges, reverse.Edges, condensed.Edges, successors, reach, distance, path, components, closure}
	}
	for _, result := range results() {
		switch list := result.(type) {
		case [][2]int:
			clear(list)
			_ = append(list, [2]int{9, 9})
		case [][]int:
			for i, row := range list {
				next := slices.Clone(list[(i+1)%len(list)])
				clear(row)
				_ = append(row, 9, 9, 9)
				if !slices.Equal(next, list[(i+1)%len(list)]) {
					t.Errorf("the rows %d and %d share memory", i, i+1)
				}
			}
		case [][]bool:
			for i, row := range list {
				next := slices.Clone(list[(i+1)%len(list)])
				for j := range row {
					row[j] = !row[j]
				}
				_ = append(row, true, false, true)
				if !slices.Equal(next, list[(i+1)%len(list)]) {
					t.Errorf("the rows %d and %d share memory", i, i+1)
				}
			}
		case []bool:
			clear(list)
		case []int:
			clear(list)
		}
	}
	if !same(g, before) || !slices.Equal(from, []int{2, 0, 2}) {
		t.Error("an argument has changed")
	}
	checkForms(t, g, edgesOf(before))
	checkClasses(t, g, edgesOf(before))
}
