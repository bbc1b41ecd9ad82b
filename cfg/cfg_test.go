package cfg_test

import (
	"math"
	"slices"
	"testing"

	"keyhole/api"
	"keyhole/cfg"
	"keyhole/digraph"
	"keyhole/flat"
)

func TestP20_1Examples(t *testing.T) {
	want := []api.Node{
		{Kind: api.NodeEntry, At: -1, Next: 1, Other: -1}, {Kind: api.NodeTest, At: 0, Next: 2, Other: 3}, {Kind: api.NodeStep, At: 1, Next: 3, Other: -1},
		{Kind: api.NodeEnter, At: 2, Next: 4, Other: -1}, {Kind: api.NodeHead, At: 2, Next: 5, Other: 6}, {Kind: api.NodeStep, At: 3, Next: 4, Other: -1}, {Kind: api.NodeExit, At: -1, Next: -1, Other: -1},
	}
	f := example()
	g := graph(t, f)
	if !slices.Equal(g.Nodes, want) {
		t.Errorf("Build = %v", g)
	}
	if node, code := cfg.NodeAt(f, 3); node != 5 || code != api.OK {
		t.Errorf("NodeAt = %d, %d", node, code)
	}
	if path, code := cfg.Walk(f, g, api.Inputs{Secret: []int{1}}); !slices.Equal(path, []int{0, 1, 2, 3, 4, 5, 4, 5, 4, 6}) || code != api.OK {
		t.Errorf("Walk = %v, %d", path, code)
	}
	if path, code := cfg.Walk(f, g, api.Inputs{Secret: []int{0}}); !slices.Equal(path, []int{0, 1, 3, 4, 6}) || code != api.OK {
		t.Errorf("Walk = %v, %d", path, code)
	}
	lists, code := cfg.Reaching(f, g)
	if code != api.OK || len(lists) != 7 || len(lists[0]) > 0 || !slices.Equal(lists[1], []int{4, 5}) || !slices.Equal(lists[4], []int{1, 4, 5}) {
		t.Errorf("Reaching = %v, %d", lists, code)
	}
}

// TestP20_1Lists has lists without steps, and steps at the ends of lists in lists.
func TestP20_1Lists(t *testing.T) {
	x := ref(0)
	entry, exit := api.Node{Kind: api.NodeEntry, At: -1, Next: 1, Other: -1}, api.Node{Kind: api.NodeExit, At: -1, Next: -1, Other: -1}
	node := func(kind api.NodeKind, at, next, other int) api.Node {
		return api.Node{Kind: kind, At: at, Next: next, Other: other}
	}
	for i, c := range []struct {
		body []api.Step
		want []api.Node
	}{
		{nil, nil},
		{[]api.Step{wait(0)}, []api.Node{node(api.NodeStep, 0, 2, -1)}},
		{[]api.Step{test(x, nil, nil)}, []api.Node{node(api.NodeTest, 0, 2, 2)}},
		{[]api.Step{test(x, nil, []api.Step{wait(1)}), wait(2)}, []api.Node{node(api.NodeTest, 0, 3, 2), node(api.NodeStep, 1, 3, -1), node(api.NodeStep, 2, 4, -1)}},
		{[]api.Step{test(x, []api.Step{wait(1)}, nil)}, []api.Node{node(api.NodeTest, 0, 2, 3), node(api.NodeStep, 1, 3, -1)}},
		{[]api.Step{loop(0, x, nil)}, []api.Node{node(api.NodeEnter, 0, 2, -1), node(api.NodeHead, 0, 2, 3)}},
		{[]api.Step{loop(9, x, nil), wait(1)}, []api.Node{node(api.NodeEnter, 0, 2, -1), node(api.NodeHead, 0, 2, 3), node(api.NodeStep, 1, 4, -1)}},
		{ // The If at the end of the Loop leads back to its head; so does the end of the Loop inside, from its own head.
			[]api.Step{loop(1, x, []api.Step{test(x, []api.Step{loop(1, x, []api.Step{wait(1)})}, []api.Step{wait(2), wait(3)})})},
			[]api.Node{node(api.NodeEnter, 0, 2, -1), node(api.NodeHead, 0, 3, 9), node(api.NodeTest, 1, 4, 7), node(api.NodeEnter, 2, 5, -1), node(api.NodeHead, 2, 6, 2), node(api.NodeStep, 3, 5, -1), node(api.NodeStep, 4, 8, -1), node(api.NodeStep, 5, 2, -1)},
		},
	} {
		f := api.Flat{Vars: []api.Var{{Name: "x"}}, Body: c.body}
		want := slices.Concat([]api.Node{entry}, c.want, []api.Node{exit})
		if g, code := cfg.Build(f); !slices.Equal(g.Nodes, want) || code != api.OK {
			t.Errorf("%d: Build = %v, %d, want %v", i, g, code, want)
		}
	}
}

func TestP20_1Build(t *testing.T) {
	kinds := map[api.NodeKind]int{}
	each(t, 3000, func(f api.Flat) {
		g, code := cfg.Build(f)
		if want := nodesModel(f); !slices.Equal(g.Nodes, want) || code != api.OK {
			t.Fatalf("Build = %v, %d, want %v: %+v", g, code, want, f)
		}
		if code := cfg.Check(f, g); code != api.OK {
			t.Fatalf("Check = %d: %+v", code, f)
		}
		for _, n := range g.Nodes {
			kinds[n.Kind]++
		}
	})
	for kind := api.NodeEntry; kind <= api.NodeHead; kind++ {
		if kinds[kind] < 4000 {
			t.Errorf("%d nodes of the kind %d", kinds[kind], kind)
		}
	}
}

func TestP20_1NodeAt(t *testing.T) {
	each(t, 500, func(f api.Flat) {
		all := places(f)
		for at := -2; at < len(all)+3; at++ {
			node, code := cfg.NodeAt(f, at)
			if at < 0 || at >= len(all) {
				if node != 0 || code != api.ErrRange {
					t.Fatalf("NodeAt %d of %d steps = %d, %d", at, len(all), node, code)
				}
				continue
			}
			if want := firstNode(all, at); node != want || code != api.OK {
				t.Fatalf("NodeAt %d = %d, %d, want %d: %+v", at, node, code, want, f)
			}
		}
	})
	for _, at := range []int{math.MinInt, -1, 4, 5, math.MaxInt} {
		if node, code := cfg.NodeAt(example(), at); node != 0 || code != api.ErrRange {
			t.Errorf("NodeAt %d = %d, %d", at, node, code)
		}
	}
	if node, code := cfg.NodeAt(api.Flat{}, 0); node != 0 || code != api.ErrRange {
		t.Errorf("NodeAt = %d, %d", node, code)
	}
}

// variants returns graphs that differ from g in one place.
func variants(g api.Cfg) []api.Cfg {
	n := len(g.Nodes)
	list := []api.Cfg{{}, {Nodes: g.Nodes[:n-1]}, {Nodes: g.Nodes[1:]}, {Nodes: append(slices.Clone(g.Nodes), g.Nodes[n-1])}, {Nodes: append(slices.Clone(g.Nodes), api.Node{})}}
	change := func(i int, by func(n *api.Node)) {
		nodes := slices.Clone(g.Nodes)
		if by(&nodes[i]); nodes[i] != g.Nodes[i] {
			list = append(list, api.Cfg{Nodes: nodes})
		}
	}
	for i := range g.Nodes {
		for _, by := range []int{-1, 1, n} {
			change(i, func(n *api.Node) { n.Kind += api.NodeKind(by) })
			change(i, func(n *api.Node) { n.At += by })
			change(i, func(n *api.Node) { n.Next += by })
			change(i, func(n *api.Node) { n.Other += by })
		}
		change(i, func(n *api.Node) { n.Next, n.Other = n.Other, n.Next })
		change(i, func(n *api.Node) { *n = api.Node{} })
		change(i, func(m *api.Node) { *m = g.Nodes[(i+1)%n] })
	}
	return list
}

func TestP20_1Check(t *testing.T) {
	count := 0
	visit := func(f api.Flat) {
		for _, g := range variants(graph(t, f)) {
			if code := cfg.Check(f, g); code != api.ErrMismatch {
				t.Fatalf("Check = %d: %v, %+v", code, g, f)
			}
			count++
		}
	}
	for size := range 4 {
		kit().Bodies(size, func(list []api.Step) { visit(api.Flat{Vars: vars(), Body: list}) })
	}
	g := newGenerator(2013)
	for range 100 {
		visit(g.program())
	}
	if count < 20000 {
		t.Errorf("%d graphs", count)
	}
	// Programs that differ in terms and costs alone have the same graph; those that differ in their steps do not.
	f, h := example(), example()
	h.Body[0].Cost, h.Body[1].N, h.Body[1].Term, h.Body[0].Then[0].Var, h.Body[1].Then[0] = 5, 9, lit(3), 1, wait(4)
	if code := cfg.Check(h, graph(t, f)); code != api.OK {
		t.Errorf("Check = %d", code)
	}
	h.Body[1] = wait(3)
	if code := cfg.Check(h, graph(t, f)); code != api.ErrMismatch {
		t.Errorf("Check = %d", code)
	}
}

// refused returns the names of the functions that do not return the code and zero values for a program, a graph and inputs. Those for programs alone are asked only if the program has an error.
func refused(f api.Flat, g api.Cfg, in api.Inputs, code api.Code) []string {
	var wrong []string
	check := func(name string, isZero bool, got api.Code) {
		if !isZero || got != code {
			wrong = append(wrong, name)
		}
	}
	if flat.Check(f) != api.OK {
		built, c := cfg.Build(f)
		check("Build", len(built.Nodes) == 0, c)
		for _, at := range []int{0, -1, 99} {
			node, c := cfg.NodeAt(f, at)
			check("NodeAt", node == 0, c)
		}
	}
	seen, c := cfg.Run(f, g, in)
	check("Run", len(seen.Outputs) == 0 && seen.Time == 0, c)
	path, c := cfg.Walk(f, g, in)
	check("Walk", len(path) == 0, c)
	if code == api.ErrMismatch || flat.Check(f) != api.OK {
		check("Check", true, cfg.Check(f, g))
		lists, c := cfg.Reaching(f, g)
		check("Reaching", len(lists) == 0, c)
	}
	return wrong
}

func TestP20_1Errors(t *testing.T) {
	good := example()
	right, other := graph(t, good), graph(t, api.Flat{})
	one := api.Inputs{Secret: []int{1}}
	deep := api.Step{Do: api.If}
	for range 12 {
		deep = test(lit(0), []api.Step{deep}, nil)
	}
	for name, c := range map[string]struct {
		change func(f *api.Flat)
		code   api.Code
	}{
		"a name":     {func(f *api.Flat) { f.Vars[0].Name = "X" }, api.ErrName},
		"two names":  {func(f *api.Flat) { f.Vars[1].Name = "x" }, api.ErrDuplicate},
		"a kind":     {func(f *api.Flat) { f.Body[0].Do = 7 }, api.ErrArgument},
		"an input":   {func(f *api.Flat) { f.Body[0].Then[0].Var = 0 }, api.ErrArgument},
		"a cost":     {func(f *api.Flat) { f.Body[1].Cost = -1 }, api.ErrRange},
		"the rounds": {func(f *api.Flat) { f.Body[1].N = 4097 }, api.ErrRange},
		"the depth":  {func(f *api.Flat) { f.Body = append(f.Body, deep) }, api.ErrLimit},
		"the steps":  {func(f *api.Flat) { f.Body = slices.Repeat([]api.Step{wait(0)}, 513) }, api.ErrLimit},
		"the work":   {func(f *api.Flat) { f.Body[1].N = 2048 }, api.ErrLimit},
	} {
		f := example()
		c.change(&f)
		for _, g := range []api.Cfg{right, other, {}} {
			for _, in := range []api.Inputs{one, {}, {Secret: []int{9}}} {
				if wrong := refused(f, g, in, c.code); len(wrong) > 0 {
					t.Errorf("%s: wrong results of %v", name, wrong)
				}
			}
		}
	}
	for _, g := range append(variants(right), other) {
		for _, in := range []api.Inputs{one, {}, {Secret: []int{9}}, {Secret: []int{1}, Public: []int{1}}} {
			if wrong := refused(good, g, in, api.ErrMismatch); len(wrong) > 0 {
				t.Errorf("%v: wrong results of %v", g, wrong)
			}
		}
	}
}

// TestP20_1Limits has programs with as many steps as possible.
func TestP20_1Limits(t *testing.T) {
	for i, c := range []struct {
		body  []api.Step
		nodes int
	}{
		{slices.Repeat([]api.Step{wait(0)}, 512), 514}, {slices.Repeat([]api.Step{loop(0, lit(1), nil)}, 512), 1026}, {slices.Repeat([]api.Step{loop(3, lit(1), nil)}, 512), 1026},
		{slices.Repeat([]api.Step{test(lit(1), nil, nil)}, 512), 514}, {slices.Repeat([]api.Step{test(ref(0), []api.Step{set(0, lit(1))}, nil)}, 256), 514},
	} {
		f := api.Flat{Vars: []api.Var{{Name: "x", High: 9}}, Body: c.body}
		g := graph(t, f)
		if len(g.Nodes) != c.nodes || !slices.Equal(g.Nodes, nodesModel(f)) {
			t.Errorf("%d: Build has %d nodes", i, len(g.Nodes))
		}
		last := flat.Size(f) - 1
		if node, code := cfg.NodeAt(f, last); node != firstNode(places(f), last) || code != api.OK {
			t.Errorf("%d: NodeAt = %d, %d", i, node, code)
		}
		if lists, code := cfg.Reaching(f, g); code != api.OK || !slices.EqualFunc(lists, reachingModel(f, g), slices.Equal) {
			t.Errorf("%d: Reaching has code %d", i, code)
		}
	}
}

// checkGraph compares Graph with the definition.
func checkGraph(t *testing.T, g api.Cfg) bool {
	t.Helper()
	edges, code := cfg.Graph(g)
	if !isFormedModel(g) {
		if code != api.ErrArgument || edges.Nodes != 0 || len(edges.Edges) > 0 {
			t.Fatalf("Graph of %v = %v, %d", g, edges, code)
		}
		return false
	}
	if code != api.OK || edges.Nodes != len(g.Nodes) || !slices.Equal(edges.Edges, edgesModel(g)) {
		t.Fatalf("Graph of %v = %v, %d", g, edges, code)
	}
	return true
}

func TestP20_2Graph(t *testing.T) {
	for i, g := range []api.Cfg{
		{}, {Nodes: []api.Node{}}, {Nodes: make([]api.Node, 1)}, {Nodes: make([]api.Node, 2)}, {Nodes: []api.Node{{Kind: api.NodeExit, At: -1, Next: -1, Other: -1}}},
		{Nodes: []api.Node{{Kind: api.NodeEntry, At: -1, Next: 1, Other: -1}}}, {Nodes: []api.Node{{At: -1, Next: 1, Other: -1}, {At: -1, Next: 1, Other: -1}}},
		{Nodes: []api.Node{{At: -1, Next: 0, Other: -1}, {Kind: api.NodeExit, At: -1, Next: -1, Other: -1}}}, {Nodes: []api.Node{{At: -1, Next: 2, Other: -1}, {Kind: api.NodeExit, At: -1, Next: -1, Other: -1}}},
		{Nodes: []api.Node{{At: -1, Next: 1, Other: -1}, {Kind: api.NodeExit, At: -1, Next: 1, Other: -1}}}, {Nodes: []api.Node{{At: 0, Next: 1, Other: -1}, {Kind: api.NodeExit, At: -1, Next: -1, Other: -1}}},
		{Nodes: []api.Node{{At: -1, Next: 1, Other: -1}, {Kind: 6, At: 0, Next: 1, Other: -1}, {Kind: api.NodeExit, At: -1, Next: -1, Other: -1}}},
		{Nodes: []api.Node{{At: -1, Next: 1, Other: -1}, {Kind: api.NodeStep, Next: 1, Other: -1}}}, {Nodes: []api.Node{{Kind: api.NodeStep, Next: 1, Other: -1}, {Kind: api.NodeExit, At: -1, Next: -1, Other: -1}}},
	} {
		if checkGraph(t, g) {
			t.Errorf("%d is formed", i)
		}
	}
	formed, not := 0, 0
	each(t, 200, func(f api.Flat) {
		g := graph(t, f)
		if !checkGraph(t, g) {
			t.Fatalf("%v is not formed", g)
		}
		if len(g.Nodes) > 12 {
			return
		}
		for _, h := range variants(g) {
			if checkGraph(t, h) {
				formed++
			} else {
				not++
			}
		}
	})
	if formed < 2000 || not < 2000 {
		t.Errorf("%d graphs are formed, %d are not", formed, not)
	}
}

// TestP20_2AnyGraph has graphs that are formed, but are not of a program.
func TestP20_2AnyGraph(t *testing.T) {
	source := newGenerator(2023)
	for size := range 300 {
		n := 2 + size%40
		if size >= 297 {
			n = 2048 + size - 297 // 2050 nodes are the most
		}
		g := api.Cfg{Nodes: []api.Node{{Kind: api.NodeEntry, At: -1, Next: 1 + source.Intn(n-1), Other: -1}}}
		for range n - 2 {
			node := api.Node{Kind: api.NodeStep + api.NodeKind(source.Intn(4)), At: source.Intn(5000), Next: 1 + source.Intn(n-1), Other: -1}
			if node.Kind == api.NodeTest || node.Kind == api.NodeHead {
				node.Other = 1 + source.Intn(n-1)
			}
			g.Nodes = append(g.Nodes, node)
		}
		g.Nodes = append(g.Nodes, api.Node{Kind: api.NodeExit, At: -1, Next: -1, Other: -1})
		if !checkGraph(t, g) {
			t.Fatalf("%v is not formed", g)
		}
		if n < 2050 {
			continue
		}
		g.Nodes = slices.Insert(g.Nodes, 1, g.Nodes[1])
		if checkGraph(t, g) {
			t.Errorf("a graph of %d nodes is formed", len(g.Nodes))
		}
	}
}

func TestP20_2Reach(t *testing.T) {
	each(t, 3000, func(f api.Flat) {
		g := graph(t, f)
		edges, code := cfg.Graph(g)
		if code != api.OK {
			t.Fatalf("Graph has code %d", code)
		}
		back, _ := digraph.Reverse(edges)
		forth, code := digraph.Reach(edges, []int{0})
		ends, other := digraph.Reach(back, []int{len(g.Nodes) - 1})
		if code != api.OK || other != api.OK || slices.Contains(forth, false) || slices.Contains(ends, false) {
			t.Fatalf("%v, %v: %v", forth, ends, g)
		}
		for _, edge := range edges.Edges {
			if edge[1] <= edge[0] && g.Nodes[edge[1]].Kind != api.NodeHead {
				t.Fatalf("an edge leads back from %d to %d: %v", edge[0], edge[1], g)
			}
		}
	})
}
