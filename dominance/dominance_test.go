package dominance_test

import (
	"math"
	"math/rand"
	"slices"
	"testing"

	"keyhole/api"
	"keyhole/digraph"
	"keyhole/dominance"
)

// results are the results of all functions that take a graph.
type results struct {
	tree, iterated, post []int
	frontier             [][]int
	control              [][2]int
}

// ask returns the results for a graph whose root is the exit, too, and the codes of the functions.
func ask(g api.Graph, root int, nodes, tree []int) (r results, codes []api.Code) {
	codes = make([]api.Code, 6)
	r.tree, codes[0] = dominance.Tree(g, root)
	r.frontier, codes[1] = dominance.Frontier(g, root)
	r.iterated, codes[2] = dominance.Iterated(g, root, nodes)
	r.post, codes[3] = dominance.Post(g, root)
	r.control, codes[4] = dominance.Control(g, root)
	codes[5] = dominance.Check(g, root, tree)
	return r, codes
}

// isZero reports whether there are no results.
func (r results) isZero() bool {
	return len(r.tree)+len(r.iterated)+len(r.post)+len(r.frontier)+len(r.control) == 0
}

func (r results) equal(other results) bool {
	return slices.Equal(r.tree, other.tree) && slices.Equal(r.iterated, other.iterated) && slices.Equal(r.post, other.post) &&
		slices.EqualFunc(r.frontier, other.frontier, slices.Equal) && slices.Equal(r.control, other.control)
}

func TestP21_1Examples(t *testing.T) {
	for i, c := range []struct {
		g          api.Graph
		root, exit int
		tree       []int
		frontier   [][]int
		control    [][2]int
	}{
		{api.Graph{Nodes: 5, Edges: [][2]int{{0, 1}, {1, 2}, {1, 3}, {2, 4}, {3, 4}}}, 0, 4, []int{-1, 0, 1, 1, 1}, [][]int{{}, {}, {4}, {4}, {}}, [][2]int{{1, 2}, {1, 3}}},
		{api.Graph{Nodes: 4, Edges: [][2]int{{0, 1}, {1, 2}, {2, 1}, {1, 3}}}, 0, 3, []int{-1, 0, 1, 1}, [][]int{{}, {1}, {1}, {}}, [][2]int{{1, 1}, {1, 2}}},
		{api.Graph{Nodes: 1}, 0, 0, []int{-1}, [][]int{{}}, nil},
		// A node from which an edge leads to itself is in its own frontier and control dependent on itself, the root and the exit as well.
		{api.Graph{Nodes: 1, Edges: [][2]int{{0, 0}, {0, 0}}}, 0, 0, []int{-1}, [][]int{{0}}, [][2]int{{0, 0}}},
		// The frontier of what lies on a cycle through the root has the root.
		{api.Graph{Nodes: 3, Edges: [][2]int{{0, 1}, {1, 0}, {1, 2}}}, 0, 2, []int{-1, 0, 1}, [][]int{{0}, {0}, {}}, [][2]int{{1, 0}, {1, 1}}},
		// Edges from a node that is not reachable are without influence.
		{api.Graph{Nodes: 4, Edges: [][2]int{{0, 1}, {1, 2}, {3, 2}}}, 0, 2, []int{-1, 0, 1, -1}, [][]int{{}, {}, {}, {}}, nil},
		{api.Graph{Nodes: 4, Edges: [][2]int{{3, 2}, {2, 3}, {0, 1}}}, 1, 3, []int{-1, -1, -1, -1}, [][]int{{}, {}, {}, {}}, [][2]int{{3, 2}, {3, 3}}},
		// No node of the cycle between 1 and 2 dominates the other one.
		{api.Graph{Nodes: 4, Edges: [][2]int{{0, 1}, {0, 2}, {1, 2}, {2, 1}, {2, 3}}}, 0, 3, []int{-1, 0, 0, 2}, [][]int{{}, {2}, {1}, {}}, [][2]int{{0, 1}, {2, 1}, {2, 2}}},
	} {
		if tree, code := dominance.Tree(c.g, c.root); !slices.Equal(tree, c.tree) || code != api.OK {
			t.Errorf("%d: Tree = %v, %d", i, tree, code)
		}
		if lists, code := dominance.Frontier(c.g, c.root); !slices.EqualFunc(lists, c.frontier, slices.Equal) || code != api.OK {
			t.Errorf("%d: Frontier = %v, %d", i, lists, code)
		}
		if pairs, code := dominance.Control(c.g, c.exit); !slices.Equal(pairs, c.control) || code != api.OK {
			t.Errorf("%d: Control = %v, %d", i, pairs, code)
		}
	}
}

func TestP21_1Tree(t *testing.T) {
	each(func(g api.Graph, root int) {
		want := treeModel(edgesOf(g).dominators(root), root)
		if tree, code := dominance.Tree(g, root); !slices.Equal(tree, want) || code != api.OK {
			t.Fatalf("Tree(%v, %d) = %v, %d, want %v", g, root, tree, code, want)
		}
	})
}

// many returns the graph with a path through as many nodes as a graph may have, with other edges, as many in all as there may be.
func many(edge func() (from, to int)) api.Graph {
	g := api.Graph{Nodes: digraph.MaxNodes}
	for i := range g.Nodes - 1 {
		g.Edges = append(g.Edges, [2]int{i, i + 1})
	}
	for len(g.Edges) < digraph.MaxEdges {
		from, to := edge()
		g.Edges = append(g.Edges, [2]int{from, to})
	}
	return g
}

// TestP21_1Limits has graphs with as many nodes and edges as there may be.
func TestP21_1Limits(t *testing.T) {
	source, n := rand.New(rand.NewSource(212)), digraph.MaxNodes
	chain := func(i int) int { return i - 1 }
	for name, c := range map[string]struct {
		g    api.Graph
		want func(i int) int
	}{
		"a path":          {many(func() (int, int) { return n - 2, n - 1 }), chain},
		"edges back":      {many(func() (int, int) { a, b := source.Intn(n), source.Intn(n); return max(a, b), min(a, b) }), chain},
		"edges to itself": {many(func() (int, int) { a := source.Intn(n); return a, a }), chain},
		"edges from 0":    {many(func() (int, int) { return 0, 1 + source.Intn(n-1) }), func(i int) int { return min(i-1, 0) }},
		"edges over one":  {many(func() (int, int) { a := source.Intn(n - 2); return a, a + 2 }), func(i int) int { return min(i-1, 0) }},
		"half a path":     {many(func() (int, int) { a := n/2 + source.Intn(n/2-2); return a, a + 2 }), func(i int) int { return min(i-1, n/2) }},
	} {
		tree, code := dominance.Tree(c.g, 0)
		if code != api.OK || len(tree) != n {
			t.Fatalf("%s: Tree has code %d", name, code)
		}
		for i, above := range tree {
			if above != c.want(i) {
				t.Errorf("%s: %d is above %d", name, above, i)
				break
			}
		}
	}
}

// TestP21_1Irreducible has cycles with several entries, round which what is known must be carried often.
func TestP21_1Irreducible(t *testing.T) {
	const n = digraph.MaxNodes
	g := api.Graph{Nodes: n, Edges: [][2]int{{0, n - 1}}}
	for i := 1; i < n-1; i++ {
		g.Edges = append(g.Edges, [2]int{i, i + 1}, [2]int{i + 1, i})
	}
	g.Edges = append(g.Edges, [2]int{0, 1})
	tree, code := dominance.Tree(g, 0)
	if code != api.OK || tree[0] != -1 || slices.ContainsFunc(tree[1:], func(above int) bool { return above != 0 }) {
		t.Errorf("Tree has code %d", code)
	}
	g.Edges = g.Edges[:len(g.Edges)-1] // without the entry at 1 the cycle has one entry
	tree, code = dominance.Tree(g, 0)
	for i := 1; i < n-1; i++ {
		if code != api.OK || tree[i] != i+1 {
			t.Fatalf("%d is above %d, code %d", tree[i], i, code)
		}
	}
}

func TestP21_2Check(t *testing.T) {
	count := 0
	each(func(g api.Graph, root int) {
		tree := treeModel(edgesOf(g).dominators(root), root)
		if code := dominance.Check(g, root, tree); code != api.OK {
			t.Fatalf("Check(%v, %d, %v) = %d", g, root, tree, code)
		}
		others := [][]int{tree[1:], append(slices.Clone(tree), -1), append(slices.Clone(tree), 0), nil}
		for i := range tree {
			for above := -2; above <= min(g.Nodes, 5); above++ {
				if other := slices.Clone(tree); tree[i] != above {
					other[i] = above
					others = append(others, other)
				}
			}
		}
		for _, other := range others {
			if code := dominance.Check(g, root, other); code != api.ErrMismatch {
				t.Fatalf("Check(%v, %d, %v) = %d", g, root, other, code)
			}
			count++
		}
	})
	if count < 100000 {
		t.Errorf("%d other trees", count)
	}
}

// TestP21_3Paths walks along edges at random.
func TestP21_3Paths(t *testing.T) {
	source := rand.New(rand.NewSource(213))
	long := 0
	each(func(g api.Graph, root int) {
		tree, code := dominance.Tree(g, root)
		next, other := digraph.Successors(g)
		if code != api.OK || other != api.OK {
			t.Fatalf("Tree has code %d", code)
		}
		for range 3 {
			path := []int{root}
			for node := root; len(next[node]) > 0 && len(path) < 3*g.Nodes; path = append(path, node) {
				node = next[node][source.Intn(len(next[node]))]
			}
			for i, last := range path {
				for a := last; a >= 0; a = tree[a] {
					if !slices.Contains(path[:i+1], a) || !dominance.Dominates(tree, a, last) {
						t.Fatalf("the path %v is without the dominator %d of %d: %v", path, a, last, g)
					}
				}
			}
			long = max(long, len(path))
		}
	})
	if long < 50 {
		t.Errorf("paths have at most %d nodes", long)
	}
}

func TestP21_4Dominates(t *testing.T) {
	tree := []int{-1, 0, 1}
	for _, c := range []struct {
		tree []int
		a, b int
		want bool
	}{
		{tree, 0, 2, true}, {tree, 2, 1, false}, {tree, 1, 1, true}, {tree, 2, 2, true}, {tree, 0, 0, true}, {tree, 1, 0, false}, {tree, -1, 0, false}, {tree, -1, -1, false}, {tree, 3, 3, false}, {tree, 0, 3, false}, {tree, 0, -1, false}, {tree, math.MaxInt, math.MaxInt, false}, {tree, math.MinInt, math.MinInt, false},
		{nil, 0, 0, false}, {nil, -1, -1, false}, {[]int{0}, 0, 0, true}, {[]int{0}, 1, 0, false}, {[]int{1, 0}, 1, 0, true}, {[]int{1, 0}, 2, 0, false}, {[]int{1, 2, 0, 1}, 2, 3, true}, {[]int{1, 2, 0, 1}, 3, 2, false},
		{[]int{5, math.MinInt, math.MaxInt}, 5, 0, false}, {[]int{5, math.MinInt, math.MaxInt}, 0, 0, true}, {[]int{5, math.MinInt, math.MaxInt}, math.MaxInt, 2, false}, {[]int{1, 2, 3, 4, -1}, 4, 0, true}, {[]int{4, 0, 1, 2, 3}, 1, 0, true},
	} {
		if got := dominance.Dominates(c.tree, c.a, c.b); got != c.want {
			t.Errorf("Dominates(%v, %d, %d) = %v", c.tree, c.a, c.b, got)
		}
	}
	source := rand.New(rand.NewSource(214))
	for i := range 2000 {
		tree := make([]int, i%12)
		for k := range tree {
			tree[k] = source.Intn(len(tree)+2) - 1
		}
		for a := -2; a < len(tree)+2; a++ {
			for b := -2; b < len(tree)+2; b++ {
				if got, want := dominance.Dominates(tree, a, b), dominatesModel(tree, a, b); got != want {
					t.Fatalf("Dominates(%v, %d, %d) = %v", tree, a, b, got)
				}
			}
		}
	}
	// A way through all nodes, and round for ever.
	round := make([]int, 1<<20)
	for i := range round {
		round[i] = (i + 1) % len(round)
	}
	if !dominance.Dominates(round, 0, 1) || dominance.Dominates(round, -1, 1) || dominance.Dominates(round, len(round), 1) {
		t.Error("Dominates is wrong on a long cycle")
	}
}

// TestP21_4Trees compares Dominates with the definition.
func TestP21_4Trees(t *testing.T) {
	each(func(g api.Graph, root int) {
		tree, code := dominance.Tree(g, root)
		dominates := edgesOf(g).dominators(root)
		for a := range g.Nodes {
			for b := range g.Nodes {
				isReachable := b == root || code == api.OK && tree[b] >= 0
				if isReachable && dominance.Dominates(tree, a, b) != dominates[a][b] {
					t.Fatalf("Dominates(%v, %d, %d) = %v: %v", tree, a, b, !dominates[a][b], g)
				}
			}
		}
	})
}

func TestP21_5Frontier(t *testing.T) {
	each(func(g api.Graph, root int) {
		m := edgesOf(g)
		want := m.frontierModel(m.dominators(root))
		if lists, code := dominance.Frontier(g, root); !slices.EqualFunc(lists, want, slices.Equal) || code != api.OK {
			t.Fatalf("Frontier(%v, %d) = %v, %d, want %v", g, root, lists, code, want)
		}
	})
}

// TestP21_5Ladder has a node from which edges lead back to all nodes, so that each is in the frontiers of all that follow it.
func TestP21_5Ladder(t *testing.T) {
	const n = digraph.MaxNodes
	g := api.Graph{Nodes: n}
	for i := range n {
		g.Edges = append(g.Edges, [2]int{n - 1, i})
		if i > 0 {
			g.Edges = append(g.Edges, [2]int{i - 1, i})
		}
	}
	lists, code := dominance.Frontier(g, 0)
	if code != api.OK || len(lists) != n {
		t.Fatalf("Frontier has code %d", code)
	}
	for i, list := range lists {
		// The node that the edge enters is dominated by those before it, but in its own frontier.
		if len(list) != i+1 || list[0] != 0 || list[i] != i {
			t.Fatalf("the frontier of %d has %d nodes", i, len(list))
		}
	}
	set, code := dominance.Iterated(g, 0, []int{7})
	if code != api.OK || len(set) != 8 || set[0] != 0 || set[7] != 7 {
		t.Errorf("Iterated = %v, %d", set, code)
	}
	pairs, code := dominance.Control(g, n-1)
	if code != api.OK || len(pairs) != n || pairs[0] != [2]int{n - 1, 0} || pairs[n-1] != [2]int{n - 1, n - 1} {
		t.Errorf("Control has %d pairs, code %d", len(pairs), code)
	}
}

func TestP21_6Iterated(t *testing.T) {
	source := rand.New(rand.NewSource(216))
	sizes := map[int]int{}
	each(func(g api.Graph, root int) {
		m := edgesOf(g)
		frontiers := m.frontierModel(m.dominators(root))
		lists := [][]int{nil, {}, {source.Intn(g.Nodes)}, {root, root}}
		var some []int
		for range source.Intn(5) {
			some = append(some, source.Intn(g.Nodes))
		}
		for _, nodes := range append(lists, some) {
			want := iteratedModel(frontiers, nodes)
			if set, code := dominance.Iterated(g, root, nodes); !slices.Equal(set, want) || code != api.OK {
				t.Fatalf("Iterated(%v, %d, %v) = %v, %d, want %v", g, root, nodes, set, code, want)
			}
			sizes[len(want)]++
		}
	})
	if len(sizes) < 12 || sizes[3] < 1000 {
		t.Errorf("the sets have the sizes %v", sizes)
	}
}

func TestP21_6Errors(t *testing.T) {
	g := api.Graph{Nodes: 3, Edges: [][2]int{{0, 1}, {1, 2}, {2, 1}}}
	for _, node := range []int{-1, 3, 4, math.MaxInt, math.MinInt} {
		for _, nodes := range [][]int{{node}, {0, node}, {node, 0}, {2, 2, node, 1}} {
			if set, code := dominance.Iterated(g, 0, nodes); len(set) > 0 || code != api.ErrRange {
				t.Errorf("Iterated of %v = %v, %d", nodes, set, code)
			}
		}
	}
	// A node may come as often as one likes.
	if set, code := dominance.Iterated(g, 0, slices.Repeat([]int{2, 1, 0}, 1<<20)); !slices.Equal(set, []int{1}) || code != api.OK {
		t.Errorf("Iterated = %v, %d", set, code)
	}
}

func TestP21_7Post(t *testing.T) {
	each(func(g api.Graph, exit int) {
		want := treeModel(edgesOf(g).reversed().dominators(exit), exit)
		if tree, code := dominance.Post(g, exit); !slices.Equal(tree, want) || code != api.OK {
			t.Fatalf("Post(%v, %d) = %v, %d, want %v", g, exit, tree, code, want)
		}
	})
}

func TestP21_7Control(t *testing.T) {
	total := 0
	each(func(g api.Graph, exit int) {
		want := edgesOf(g).controlModel(exit)
		if pairs, code := dominance.Control(g, exit); !slices.Equal(pairs, want) || code != api.OK {
			t.Fatalf("Control(%v, %d) = %v, %d, want %v", g, exit, pairs, code, want)
		}
		total += len(want)
	})
	if total < 50000 {
		t.Errorf("%d pairs", total)
	}
}

func TestP21_7Errors(t *testing.T) {
	edges := func(list ...[2]int) api.Graph { return api.Graph{Nodes: 2, Edges: list} }
	for i, c := range []struct {
		g    api.Graph
		root int
		code api.Code
	}{
		{api.Graph{Nodes: -1}, 0, api.ErrArgument}, {api.Graph{Nodes: math.MinInt, Edges: [][2]int{{5, 5}}}, 9, api.ErrArgument}, {api.Graph{Nodes: digraph.MaxNodes + 1}, 0, api.ErrLimit}, {api.Graph{Nodes: math.MaxInt}, -1, api.ErrLimit},
		{api.Graph{Nodes: 1, Edges: make([][2]int, digraph.MaxEdges+1)}, 1, api.ErrLimit}, {edges([2]int{0, 2}), 0, api.ErrRange}, {edges([2]int{-1, 0}), 0, api.ErrRange}, {edges([2]int{0, 1}, [2]int{math.MaxInt, 0}), 0, api.ErrRange},
		{api.Graph{}, 0, api.ErrRange}, {api.Graph{}, -1, api.ErrRange}, {edges(), -1, api.ErrRange}, {edges(), 2, api.ErrRange}, {edges(), math.MaxInt, api.ErrRange}, {edges([2]int{0, 1}), math.MinInt, api.ErrRange},
	} {
		for _, nodes := range [][]int{nil, {0}, {-1}, {math.MaxInt}} {
			for _, tree := range [][]int{nil, {-1}, {-1, 0}, {-1, -1}} {
				r, codes := ask(c.g, c.root, nodes, tree)
				if !r.isZero() || slices.ContainsFunc(codes, func(code api.Code) bool { return code != c.code }) {
					t.Errorf("%d: %v, %v, want %d", i, r, codes, c.code)
				}
			}
		}
	}
}

// TestMemory expects that arguments stay as they are, that results share no memory, and that the order and the number of edges do not matter.
func TestMemory(t *testing.T) {
	source := rand.New(rand.NewSource(210))
	for i := range 300 {
		g := randomGraph(source, 3+i%10, 12, i%2 == 0)
		root, nodes := source.Intn(g.Nodes), []int{source.Intn(g.Nodes), source.Intn(g.Nodes)}
		kept, keptNodes := slices.Clone(g.Edges), slices.Clone(nodes)
		first, _ := ask(g, root, nodes, nil)
		second, codes := ask(g, root, nodes, first.tree)
		if !first.equal(second) || slices.ContainsFunc(codes, func(code api.Code) bool { return code != api.OK }) {
			t.Fatalf("%v, %v, %v", first, second, codes)
		}
		for _, list := range append(first.frontier, first.tree, first.post, first.iterated) {
			for k := range list {
				list[k] = -77
			}
		}
		for k := range first.control {
			first.control[k] = [2]int{-77, -77}
		}
		if !slices.Equal(g.Edges, kept) || !slices.Equal(nodes, keptNodes) {
			t.Fatalf("an argument is changed: %v, %v", g, nodes)
		}
		source.Shuffle(len(kept), func(i, k int) { kept[i], kept[k] = kept[k], kept[i] })
		simple, _ := digraph.Simple(g)
		for _, same := range []api.Graph{g, simple, {Nodes: g.Nodes, Edges: kept}} {
			if third, _ := ask(same, root, nodes, nil); !third.equal(second) {
				t.Fatalf("%v, %v", third, second)
			}
		}
	}
	// Frontiers do not share memory with each other.
	g := api.Graph{Nodes: 4, Edges: [][2]int{{0, 1}, {1, 2}, {2, 3}, {3, 0}, {3, 1}, {3, 2}}}
	lists, _ := dominance.Frontier(g, 0)
	for i := range lists {
		lists[i] = append(lists[i], 99)
		for k := range lists[i] {
			lists[i][k] = 77 + i
		}
	}
	for i, list := range lists {
		if slices.ContainsFunc(list, func(n int) bool { return n != 77+i }) {
			t.Errorf("lists share memory: %v", lists)
		}
	}
}
