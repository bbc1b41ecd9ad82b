package digraph_test

import (
	"math"
	"math/rand"
	"slices"
	"testing"

	"keyhole/api"
	"keyhole/digraph"
)

func TestP6_1Check(t *testing.T) {
	for _, r := range refusals() {
		if code := digraph.Check(r.g); code != r.code {
			t.Errorf("Check of %s = %d, want %d", r.name, code, r.code)
		}
	}
	for _, g := range []api.Graph{
		{}, {Nodes: 1}, {Nodes: 4096}, {Edges: [][2]int{}},
		{Nodes: 1, Edges: [][2]int{{0, 0}, {0, 0}}},
		{Nodes: 4096, Edges: [][2]int{{4095, 0}, {0, 4095}, {4095, 4095}}},
		{Nodes: 1, Edges: make([][2]int, digraph.MaxEdges)},
	} {
		if code := digraph.Check(g); code != api.OK {
			t.Errorf("Check of %d nodes and %d edges = %d", g.Nodes, len(g.Edges), code)
		}
	}
	if digraph.MaxNodes != 4096 || digraph.MaxEdges != 1048576 {
		t.Errorf("the limits are %d and %d", digraph.MaxNodes, digraph.MaxEdges)
	}
	each(t, func(g api.Graph, m matrix) {
		if code := digraph.Check(g); code != api.OK {
			t.Fatalf("Check(%v) = %d", g, code)
		}
	})
}

// zeros calls every function except Check, and returns the names of those that do not return the code and zero values.
func zeros(g api.Graph, nodes []int, code api.Code) []string {
	var wrong []string
	check := func(name string, zero bool, got api.Code) {
		if !zero || got != code {
			wrong = append(wrong, name)
		}
	}
	simple, c := digraph.Simple(g)
	check("Simple", same(simple, api.Graph{}), c)
	reverse, c := digraph.Reverse(g)
	check("Reverse", same(reverse, api.Graph{}), c)
	successors, c := digraph.Successors(g)
	check("Successors", len(successors) == 0, c)
	order, c := digraph.Order(g)
	check("Order", len(order) == 0, c)
	components, c := digraph.Components(g)
	check("Components", len(components) == 0, c)
	condensed, c := digraph.Condense(g)
	check("Condense", same(condensed, api.Graph{}), c)
	closure, c := digraph.Closure(g)
	check("Closure", len(closure) == 0, c)
	return append(wrong, zerosOf(g, nodes, code)...)
}

// zerosOf is zeros for the functions to which nodes are passed.
func zerosOf(g api.Graph, nodes []int, code api.Code) []string {
	var wrong []string
	if reach, c := digraph.Reach(g, nodes); len(reach) > 0 || c != code {
		wrong = append(wrong, "Reach")
	}
	if distance, c := digraph.Distance(g, nodes); len(distance) > 0 || c != code {
		wrong = append(wrong, "Distance")
	}
	if len(nodes) > 0 {
		if path, c := digraph.Path(g, nodes[0], nodes[len(nodes)-1]); len(path) > 0 || c != code {
			wrong = append(wrong, "Path")
		}
	}
	return wrong
}

func TestP6_1Refused(t *testing.T) {
	for _, r := range refusals() {
		for _, nodes := range [][]int{nil, {0}, {-1}, {0, 5000}, {math.MaxInt, math.MinInt}} {
			if wrong := zeros(r.g, nodes, r.code); len(wrong) > 0 {
				t.Errorf("%s, nodes %v: wrong results of %v", r.name, nodes, wrong)
			}
		}
	}
}

func TestP6_1Nodes(t *testing.T) {
	for _, g := range []api.Graph{{}, {Nodes: 1}, {Nodes: 3}, {Nodes: 3, Edges: [][2]int{{0, 1}, {1, 2}}}, {Nodes: 4096, Edges: [][2]int{{0, 4095}}}} {
		for _, node := range []int{-1, g.Nodes, g.Nodes + 1, math.MaxInt, math.MinInt} {
			for _, nodes := range [][]int{{node}, {node, node}, {0, node}, {node, 0}, {g.Nodes - 1, node}, {0, 0, node, 0, node}} {
				if wrong := zerosOf(g, nodes, api.ErrRange); len(wrong) > 0 {
					t.Errorf("%d nodes: wrong results of %v for the nodes %v", g.Nodes, wrong, nodes)
				}
			}
		}
	}
}

// checkForms compares Simple, Reverse and Successors of g with the edges m.
func checkForms(t *testing.T, g api.Graph, m matrix) {
	t.Helper()
	if simple, code := digraph.Simple(g); code != api.OK || !same(simple, m.simple()) {
		t.Fatalf("Simple(%v) = %v, %d", g, simple, code)
	}
	reverse, code := digraph.Reverse(g)
	if code != api.OK || !same(reverse, m.converse().simple()) {
		t.Fatalf("Reverse(%v) = %v, %d", g, reverse, code)
	}
	if back, code := digraph.Reverse(reverse); code != api.OK || !same(back, m.simple()) {
		t.Fatalf("Reverse(%v) = %v, %d", reverse, back, code)
	}
	lists, code := digraph.Successors(g)
	if code != api.OK || len(lists) != g.Nodes {
		t.Fatalf("Successors(%v) = %v, %d", g, lists, code)
	}
	for a, list := range lists {
		var want []int
		for b := range m {
			if m[a][b] {
				want = append(want, b)
			}
		}
		if !slices.Equal(list, want) {
			t.Fatalf("Successors(%v) = %v", g, lists)
		}
	}
}

func TestP6_1Forms(t *testing.T) {
	each(t, func(g api.Graph, m matrix) { checkForms(t, g, m) })
	source := rand.New(rand.NewSource(2))
	for _, n := range []int{60, 64, 65, 130} {
		g := randomGraph(source, n, 30, func(a, b int) bool { return true })
		checkForms(t, mixed(source, g), edgesOf(g))
	}
}

func TestP6_2Reach(t *testing.T) {
	source := rand.New(rand.NewSource(3))
	each(t, func(g api.Graph, m matrix) {
		reach := m.reach()
		for _, from := range startsOf(source, g.Nodes) {
			got, code := digraph.Reach(g, from)
			if code != api.OK || len(got) != g.Nodes {
				t.Fatalf("Reach(%v, %v) = %v, %d", g, from, got, code)
			}
			distance, code := digraph.Distance(g, from)
			if code != api.OK || len(distance) != g.Nodes {
				t.Fatalf("Distance(%v, %v) = %v, %d", g, from, distance, code)
			}
			for b := range m {
				want := slices.ContainsFunc(from, func(a int) bool { return reach[a][b] })
				if got[b] != want || distance[b] != -1 != want {
					t.Fatalf("Reach(%v, %v) = %v, Distance %v", g, from, got, distance)
				}
			}
		}
	})
}

func TestP6_3Distance(t *testing.T) {
	source := rand.New(rand.NewSource(4))
	each(t, func(g api.Graph, m matrix) {
		table := m.distances()
		for _, from := range startsOf(source, g.Nodes) {
			want := make([]int, g.Nodes)
			for b := range want {
				want[b] = -1
				for _, a := range from {
					if d := table[a][b]; d >= 0 && (want[b] < 0 || d < want[b]) {
						want[b] = d
					}
				}
			}
			if got, code := digraph.Distance(g, from); code != api.OK || !slices.Equal(got, want) {
				t.Fatalf("Distance(%v, %v) = %v, %d, want %v", g, from, got, code, want)
			}
		}
	})
}

// TestP6_3Large checks the laws of distances, which leave one result only, on graphs of many nodes.
func TestP6_3Large(t *testing.T) {
	source := rand.New(rand.NewSource(5))
	for i := range 20 {
		g := api.Graph{Nodes: 1000 + i}
		for range 500 + 150*i {
			g.Edges = append(g.Edges, [2]int{source.Intn(g.Nodes), source.Intn(g.Nodes)})
		}
		from := []int{source.Intn(g.Nodes), source.Intn(g.Nodes), 7, 7}
		distance, code := digraph.Distance(g, from)
		if code != api.OK || len(distance) != g.Nodes {
			t.Fatalf("Distance has code %d", code)
		}
		nearer := make([]bool, g.Nodes)
		for _, edge := range g.Edges {
			a, b := distance[edge[0]], distance[edge[1]]
			if a >= 0 && (b < 0 || b > a+1) {
				t.Fatalf("an edge leads from the distance %d to %d", a, b)
			}
			if a >= 0 && b == a+1 {
				nearer[edge[1]] = true
			}
		}
		for node, d := range distance {
			if d < -1 || (d == 0) != slices.Contains(from, node) || d > 0 && !nearer[node] {
				t.Fatalf("the node %d has the distance %d", node, d)
			}
		}
		if reach, code := digraph.Reach(g, from); code != api.OK || slices.IndexFunc(reach, func(b bool) bool { return !b }) != slices.Index(distance, -1) {
			t.Fatalf("Reach differs from Distance, code %d", code)
		}
	}
}

func TestP6_4Path(t *testing.T) {
	each(t, func(g api.Graph, m matrix) {
		table := m.distances()
		for a := range m {
			for b := range m {
				path, code := digraph.Path(g, a, b)
				if table[a][b] < 0 {
					if code != api.ErrMissing || len(path) > 0 {
						t.Fatalf("Path(%v, %d, %d) = %v, %d", g, a, b, path, code)
					}
					continue
				}
				if want := m.leastPath(a, b, table[a][b]); code != api.OK || !slices.Equal(path, want) {
					t.Fatalf("Path(%v, %d, %d) = %v, %d, want %v", g, a, b, path, code, want)
				}
			}
		}
	})
}

// TestP6_4Layers looks for paths through layers of which each node leads to several nodes of the next layer.
func TestP6_4Layers(t *testing.T) {
	source := rand.New(rand.NewSource(6))
	for range 40 {
		const width, depth = 5, 6
		number := source.Perm(width * depth)
		g := api.Graph{Nodes: width * depth}
		for i := range width * (depth - 1) {
			for j := range width {
				if next := (i/width+1)*width + j; source.Intn(2) == 0 {
					g.Edges = append(g.Edges, [2]int{number[i], number[next]})
				}
			}
		}
		m, from, to := edgesOf(g), number[0], number[width*depth-1]
		var want []int
		var follow func(path []int)
		follow = func(path []int) {
			at := path[len(path)-1]
			if at == to && (want == nil || slices.Compare(path, want) < 0) {
				want = slices.Clone(path)
			}
			for b := range m {
				if m[at][b] {
					follow(append(path, b))
				}
			}
		}
		follow([]int{from})
		path, code := digraph.Path(mixed(source, g), from, to)
		if !slices.Equal(path, want) || (code == api.OK) != (want != nil) {
			t.Fatalf("Path(%v, %d, %d) = %v, %d, want %v", g, from, to, path, code, want)
		}
	}
}

func TestP6_5Order(t *testing.T) {
	met := map[api.Code]int{}
	each(t, func(g api.Graph, m matrix) {
		want, reach := api.OK, m.reach()
		for a := range m {
			for b := range m {
				if m[a][b] && reach[b][a] {
					want = api.ErrOrder
				}
			}
		}
		order, code := digraph.Order(g)
		if code != want || code != api.OK && len(order) > 0 {
			t.Fatalf("Order(%v) = %v, %d, want code %d", g, order, code, want)
		}
		if code == api.OK && !slices.Equal(order, m.leastOrder()) {
			t.Fatalf("Order(%v) = %v, want %v", g, order, m.leastOrder())
		}
		met[code]++
	})
	if met[api.OK] < 500 || met[api.ErrOrder] < 500 {
		t.Errorf("the samples have the codes %v", met)
	}
}

// TestP6_5Large takes the least node of those without predecessors again and again.
func TestP6_5Large(t *testing.T) {
	source := rand.New(rand.NewSource(7))
	for _, n := range []int{40, 200} {
		number := source.Perm(n)
		g := randomGraph(source, n, 3, func(a, b int) bool { return number[a] < number[b] })
		m, taken, want := edgesOf(g), make([]bool, n), []int(nil)
		for range n {
			for a := range n {
				free := !taken[a]
				for b := range n {
					free = free && (taken[b] || !m[b][a])
				}
				if free {
					taken[a] = true
					want = append(want, a)
					break
				}
			}
		}
		if order, code := digraph.Order(mixed(source, g)); code != api.OK || !slices.Equal(order, want) {
			t.Errorf("Order of %d nodes = %v, %d, want %v", n, order, code, want)
		}
		g.Edges = append(g.Edges, [2]int{want[n-1], want[n-1]})
		if order, code := digraph.Order(g); code != api.ErrOrder || len(order) > 0 {
			t.Errorf("Order of a graph with a loop = %v, %d", order, code)
		}
	}
}
