package mincut_test

import (
	"math"
	"math/rand"
	"slices"
	"testing"

	"keyhole/api"
	"keyhole/mincut"
)

func TestP7_1AllSmall(t *testing.T) {
	for n := range 4 {
		for bits := range 1 << (n * n) {
			g := api.Graph{Nodes: n}
			for i := range n * n {
				if bits>>i&1 == 1 {
					g.Edges = append(g.Edges, [2]int{i / n, i % n})
				}
			}
			for _, from := range subsets(n) {
				for _, to := range subsets(n) {
					x := instance{g: g, from: from, to: to}
					for _, cut := range subsets(n) {
						checkSeparates(t, x, cut)
					}
				}
			}
		}
	}
}

// checkSeparates compares Separates with its definition.
func checkSeparates(t *testing.T, x instance, cut []int) {
	t.Helper()
	if got, code := mincut.Separates(x.g, x.from, x.to, cut); code != api.OK || got != x.separated(cut) {
		t.Fatalf("Separates(%v, %v) = %t, %d", x, cut, got, code)
	}
}

func TestP7_1AnyOrder(t *testing.T) {
	source := rand.New(rand.NewSource(1))
	for _, x := range samples(2, 20000) {
		cut := randomList(source, x.g.Nodes)
		before, cutBefore := x.copyOf(), slices.Clone(cut)
		checkSeparates(t, x, cut)
		if !x.equal(before) || !slices.Equal(cut, cutBefore) {
			t.Fatalf("Separates has changed an argument: %v, %v", x, cut)
		}
	}
}

func TestP7_1Errors(t *testing.T) {
	g := api.Graph{Nodes: 3, Edges: [][2]int{{0, 1}, {1, 2}}}
	for _, bad := range []int{-1, 3, 4, math.MaxInt, math.MinInt} {
		for _, list := range [][]int{{bad}, {0, bad}, {bad, 1}, {2, 2, bad}} {
			for _, lists := range [][3][]int{{list, {2}, {1}}, {{0}, list, {1}}, {{0}, {2}, list}, {nil, nil, list}, {nil, list, nil}, {list, nil, nil}, {list, list, list}} {
				if got, code := mincut.Separates(g, lists[0], lists[1], lists[2]); got || code != api.ErrRange {
					t.Errorf("Separates(%v, %v) = %t, %d", g, lists, got, code)
				}
			}
		}
	}
	for _, g := range brokenGraphs() {
		for _, list := range [][]int{nil, {0}, {-1}, {5000}} {
			if got, code := mincut.Separates(g, list, list, list); got || code != api.ErrArgument {
				t.Errorf("Separates of %d nodes, %d edges and %v = %t, %d", g.Nodes, len(g.Edges), list, got, code)
			}
		}
	}
	if got, code := mincut.Separates(api.Graph{}, nil, nil, nil); !got || code != api.OK {
		t.Errorf("Separates without nodes = %t, %d", got, code)
	}
}

// checkErrors expects the code and zero values from Cut and Check, and from Disjoint if the weights do not matter.
func checkErrors(t *testing.T, x instance, code api.Code, disjoint bool) {
	t.Helper()
	cut, flows, weight, got := mincut.Cut(x.g, x.weight, x.from, x.to)
	if got != code || len(cut) > 0 || len(flows) > 0 || weight != 0 {
		t.Errorf("Cut of %d nodes, %v, %v, %v = %v, %v, %d, %d, want code %d", x.g.Nodes, x.weight, x.from, x.to, cut, flows, weight, got, code)
	}
	for _, cut := range [][]int{nil, {0}, {1}, {-1}, {1, 0}, {5000}} {
		for _, flows := range [][]api.Flow{nil, {{Path: []int{0, 1}, Amount: 1}}, {{Path: []int{-1}, Amount: -1}}, {{}}} {
			if got := mincut.Check(x.g, x.weight, x.from, x.to, cut, flows); got != code {
				t.Errorf("Check of %d nodes, %v, %v, %v, %v, %v = %d, want %d", x.g.Nodes, x.weight, x.from, x.to, cut, flows, got, code)
			}
		}
	}
	if disjoint {
		if paths, got := mincut.Disjoint(x.g, x.from, x.to); got != code || len(paths) > 0 {
			t.Errorf("Disjoint of %d nodes, %v, %v = %v, %d, want code %d", x.g.Nodes, x.from, x.to, paths, got, code)
		}
	}
}

func TestP7_3Errors(t *testing.T) {
	good, out := []int{1, 1, 1}, []int{-1, 3}
	for _, g := range brokenGraphs() {
		for _, weight := range [][]int{nil, good, {1, 1}, {1, math.MaxInt}} {
			for _, list := range [][]int{nil, {0}, out} {
				checkErrors(t, instance{g, weight, list, []int{0}}, api.ErrArgument, true)
				checkErrors(t, instance{g, weight, nil, list}, api.ErrArgument, true)
			}
		}
	}
	g := api.Graph{Nodes: 3, Edges: [][2]int{{0, 1}, {1, 2}}}
	for _, weight := range [][]int{nil, {}, {1, 1}, {1, 1, 1, 1}, {1, math.MaxInt}, {-1, -1, -1, -1}, make([]int, 4096)} {
		for _, list := range [][]int{nil, {0}, out} {
			checkErrors(t, instance{g, weight, list, []int{2}}, api.ErrMismatch, false)
			checkErrors(t, instance{g, weight, []int{0}, list}, api.ErrMismatch, false)
		}
	}
	checkErrors(t, instance{weight: []int{1}}, api.ErrMismatch, false)
	for i := range 3 {
		for _, high := range []int{api.MaxLoss + 1, math.MaxInt} {
			weight := []int{-1, -1, -1}
			weight[i] = high
			checkErrors(t, instance{g, weight, []int{0}, []int{2}}, api.ErrRange, false)
			checkErrors(t, instance{g, weight, nil, nil}, api.ErrRange, false)
		}
	}
	for _, bad := range []int{-1, 3, math.MaxInt, math.MinInt} {
		for _, list := range [][]int{{bad}, {0, bad}, {bad, 2}, {1, 1, bad}} {
			for _, weight := range [][]int{good, {-1, -1, -1}} {
				checkErrors(t, instance{g, weight, list, []int{2}}, api.ErrRange, true)
				checkErrors(t, instance{g, weight, []int{0}, list}, api.ErrRange, true)
				checkErrors(t, instance{g, weight, list, nil}, api.ErrRange, true)
				checkErrors(t, instance{g, weight, nil, list}, api.ErrRange, true)
			}
		}
	}
	checkErrors(t, instance{weight: nil, from: []int{0}}, api.ErrRange, true)
}

func TestP7_3AllWeights(t *testing.T) {
	source := rand.New(rand.NewSource(3))
	for range 60 {
		x := randomInstance(source, 4, 2+source.Intn(8), 2, 1)
		for code := range 256 {
			x.weight = []int{code%4 - 1, code/4%4 - 1, code/16%4 - 1, code/64 - 1}
			checkLeast(t, x)
		}
	}
}

// checkLeast compares Cut with the least one of all cuts.
func checkLeast(t *testing.T, x instance) {
	t.Helper()
	before := x.copyOf()
	weight := x.check(t)
	least, ok := x.least()
	if ok != (weight >= 0) || ok && weight != least {
		t.Fatalf("Cut(%v) weighs %d, want %d, %t", x, weight, least, ok)
	}
	if !x.equal(before) {
		t.Fatalf("Cut has changed an argument: %v", x)
	}
}

func TestP7_3Random(t *testing.T) {
	missing := 0
	for _, x := range samples(5, 6000) {
		checkLeast(t, x)
		if x.connected(func(node int) bool { return x.weight[node] < 0 }) {
			missing++
		}
	}
	if missing < 100 {
		t.Errorf("only %d instances have no cut", missing)
	}
}

// TestP7_3Medium checks the proofs of cuts of graphs of which not all cuts can be tried.
func TestP7_3Medium(t *testing.T) {
	source := rand.New(rand.NewSource(6))
	for i := range 400 {
		n := 10 + i%50
		x := randomInstance(source, n, n+source.Intn(4*n), 3+source.Intn(20), 1+source.Intn(1+i*i))
		for range source.Intn(n / 2) {
			x.from = append(x.from, source.Intn(n))
			x.to = append(x.to, source.Intn(n))
		}
		x.check(t)
	}
}

func TestP7_3Ends(t *testing.T) {
	one := api.Graph{Nodes: 1}
	for _, c := range []struct {
		x    instance
		want int
	}{
		{instance{}, 0},
		{instance{one, []int{7}, []int{0}, []int{0, 0}}, 7},
		{instance{one, []int{0}, []int{0}, []int{0}}, 0},
		{instance{one, []int{-1}, []int{0}, []int{0}}, -1},
		{instance{one, []int{-1}, []int{0}, nil}, 0},
		{instance{one, []int{-1}, nil, []int{0}}, 0},
		{instance{one, []int{api.MaxLoss}, []int{0, 0}, []int{0}}, api.MaxLoss},
		{instance{one, []int{math.MinInt}, nil, nil}, 0},
		{instance{api.Graph{Nodes: 2}, []int{3, 4}, []int{1, 0}, []int{0, 1}}, 7},
		{instance{api.Graph{Nodes: 2}, []int{3, -1}, []int{1, 0}, []int{0, 1}}, -1},
		{instance{api.Graph{Nodes: 2}, []int{3, 4}, []int{0}, []int{1}}, 0},
		{instance{api.Graph{Nodes: 2, Edges: [][2]int{{1, 0}}}, []int{3, 4}, []int{0}, []int{1}}, 0},
		{instance{api.Graph{Nodes: 2, Edges: [][2]int{{0, 1}, {0, 1}, {0, 0}, {1, 1}}}, []int{3, 4}, []int{0}, []int{1}}, 3},
		{instance{api.Graph{Nodes: 2, Edges: [][2]int{{0, 1}, {1, 0}}}, []int{-1, 4}, []int{0}, []int{1}}, 4},
		{instance{api.Graph{Nodes: 3, Edges: [][2]int{{0, 1}, {1, 2}}}, []int{-1, 0, -1}, []int{0}, []int{2}}, 0},
		{instance{api.Graph{Nodes: 3, Edges: [][2]int{{0, 1}, {1, 2}}}, []int{5, 2, 5}, []int{0, 1}, []int{1, 2}}, 2},
		{instance{api.Graph{Nodes: 3, Edges: [][2]int{{0, 1}, {1, 2}}}, []int{5, -1, 5}, []int{0, 1}, []int{1, 2}}, -1},
		{instance{api.Graph{Nodes: 3, Edges: [][2]int{{0, 1}, {1, 2}}}, []int{4, -9, 5}, []int{0, 2}, []int{2}}, 5},
	} {
		if weight := c.x.check(t); weight != c.want {
			t.Errorf("Cut(%v) weighs %d, want %d", c.x, weight, c.want)
		}
	}
}

// circle returns an instance with numbered nodes in which shortest paths, taken one after the other, make a flow that runs in a circle: the first one leads from u over the inner nodes to v, a later one from v to u by an edge.
func circle(number []int, inner int) instance {
	n := len(number)
	x := instance{g: api.Graph{Nodes: n}, weight: make([]int, n)}
	taken := 0
	take := func(weight int) int {
		node := number[taken]
		taken++
		x.weight[node] = weight
		return node
	}
	link := func(nodes ...int) {
		for i := range len(nodes) - 1 {
			x.g.Edges = append(x.g.Edges, [2]int{nodes[i], nodes[i+1]})
		}
	}
	row := func(size int) []int {
		var nodes []int
		for range size {
			nodes = append(nodes, take(1))
		}
		return nodes
	}
	u, v, first, last := take(2), take(2), take(1), take(1)
	over, to, from := row(inner), row(inner+4), row(inner+4)
	link(first, u)
	link(append(append([]int{u}, over...), v)...)
	link(v, last)
	link(append(to, v)...)
	link(v, u)
	link(append([]int{u}, from...)...)
	x.from, x.to = []int{first, to[0]}, []int{last, from[len(from)-1]}
	return x
}

// TestP7_3Circles checks that flows are paths without repeated nodes where the greatest flow may run in a circle.
func TestP7_3Circles(t *testing.T) {
	source := rand.New(rand.NewSource(13))
	for i := range 400 {
		inner := 1 + i%10
		x := circle(source.Perm(12+3*inner), inner)
		if weight := x.check(t); weight != 2 {
			t.Fatalf("Cut(%v) weighs %d", x, weight)
		}
		if paths, code := mincut.Disjoint(x.g, x.from, x.to); code != api.OK || len(paths) != 2 {
			t.Fatalf("Disjoint(%v) = %v, %d", x, paths, code)
		}
	}
}

// grid returns a square of nodes with edges to the right, downwards and (if back) upwards, from the left side to the right side.
func grid(side int, back bool) instance {
	x := instance{g: api.Graph{Nodes: side * side}}
	for node := range side * side {
		x.weight = append(x.weight, 1+node*node%7)
		if node%side < side-1 {
			x.g.Edges = append(x.g.Edges, [2]int{node, node + 1})
		} else {
			x.to = append(x.to, node)
		}
		if node%side == 0 {
			x.from = append(x.from, node)
		}
		if node+side < side*side {
			x.g.Edges = append(x.g.Edges, [2]int{node, node + side})
			if back {
				x.g.Edges = append(x.g.Edges, [2]int{node + side, node})
			}
		}
	}
	return x
}

// TestP7_3Large checks cuts of graphs with as many nodes, edges and weight as there may be.
func TestP7_3Large(t *testing.T) {
	grid(64, false).check(t)
	grid(64, true).check(t)
	chain := instance{g: api.Graph{Nodes: 4096}, from: []int{0}, to: []int{4095}}
	for node := range 4096 {
		chain.weight = append(chain.weight, 5000-node)
		if node > 0 {
			chain.g.Edges = append(chain.g.Edges, [2]int{node - 1, node})
		}
	}
	if weight := chain.check(t); weight != 905 {
		t.Errorf("the chain has the weight %d", weight)
	}
	alone := instance{g: api.Graph{Nodes: 4096}}
	dense := instance{g: api.Graph{Nodes: 2048}}
	for node := range 4096 {
		alone.weight, alone.from, alone.to = append(alone.weight, api.MaxLoss), append(alone.from, node), append(alone.to, node)
	}
	for node := range 2048 {
		dense.weight = append(dense.weight, 3+node%2)
		if node < 1024 {
			dense.from = append(dense.from, node)
			continue
		}
		dense.to = append(dense.to, node)
		for other := range 1024 {
			dense.g.Edges = append(dense.g.Edges, [2]int{other, node})
		}
	}
	if weight := alone.check(t); weight != 4096<<20 {
		t.Errorf("4096 nodes alone have the weight %d", weight)
	}
	if weight := dense.check(t); weight != 3*512+4*512 {
		t.Errorf("two sides with all edges between them have the weight %d", weight)
	}
}

// TestP7_4Duality takes certificates that Check accepts, and looks for a list that separates and weighs less.
func TestP7_4Duality(t *testing.T) {
	source, accepted := rand.New(rand.NewSource(7)), 0
	for _, x := range samples(8, 4000) {
		cut, flows, _, code := mincut.Cut(x.g, x.weight, x.from, x.to)
		if code != api.OK {
			continue
		}
		for range 6 {
			other, otherFlows := disturbed(source, x, cut, flows)
			if mincut.Check(x.g, x.weight, x.from, x.to, other, otherFlows) != api.OK {
				continue
			}
			accepted++
			weight, _ := x.weigh(other)
			for _, list := range subsets(x.g.Nodes) {
				if total, ok := x.weigh(list); ok && total < weight {
					t.Fatalf("Check(%v) accepts %v, %v, but %v weighs less", x, other, otherFlows, list)
				}
			}
		}
	}
	if accepted < 2000 {
		t.Errorf("Check has accepted %d certificates only", accepted)
	}
}

func TestP7_5Disjoint(t *testing.T) {
	list := samples(9, 3000)
	source := rand.New(rand.NewSource(10))
	for i := range 100 {
		list = append(list, randomInstance(source, 10+i, 20+4*i, 1000, 1))
	}
	list = append(list, grid(30, true))
	for _, x := range list {
		before := x.copyOf()
		paths, code := mincut.Disjoint(x.g, x.from, x.to)
		if code != api.OK || !x.equal(before) {
			t.Fatalf("Disjoint(%v) has code %d", x, code)
		}
		for i := range x.weight {
			x.weight[i] = 1
		}
		var flows []api.Flow
		for _, path := range paths {
			flows = append(flows, api.Flow{Path: path, Amount: 1})
		}
		if _, ok := x.admissible(flows); !ok {
			t.Fatalf("Disjoint(%v) = %v", x, paths)
		}
		if weight := x.check(t); weight != len(paths) {
			t.Fatalf("Disjoint(%v) = %v, but the least cut has %d nodes", x, paths, weight)
		}
	}
}

// noLess reports whether the weight of a least cut, -1 if there is none, is at least as high as before.
func noLess(after, before int) bool {
	return after < 0 || before >= 0 && after >= before
}

func TestP7_5Changes(t *testing.T) {
	source := rand.New(rand.NewSource(11))
	for _, x := range samples(12, 4000) {
		weight := x.check(t)
		if back := x.reversed().check(t); back != weight {
			t.Fatalf("the least cut of %v weighs %d, backwards %d", x, weight, back)
		}
		if x.g.Nodes == 0 {
			continue
		}
		y := x.copyOf()
		y.g.Edges = append(y.g.Edges, [2]int{source.Intn(x.g.Nodes), source.Intn(x.g.Nodes)})
		if more := y.check(t); !noLess(more, weight) {
			t.Fatalf("the least cut of %v weighs %d, of %v %d", x, weight, y, more)
		}
		z, node := x.copyOf(), source.Intn(x.g.Nodes)
		z.weight[node] += 1 + source.Intn(3)
		if x.weight[node] < 0 {
			z.weight[node] = x.weight[node]
		}
		if more := z.check(t); !noLess(more, weight) {
			t.Fatalf("the least cut of %v weighs %d, of %v %d", x, weight, z, more)
		}
	}
}

func TestExamples(t *testing.T) {
	g := api.Graph{Nodes: 4, Edges: [][2]int{{0, 1}, {0, 2}, {1, 3}, {2, 3}}}
	cut, flows, weight, code := mincut.Cut(g, []int{5, 1, 2, 5}, []int{0}, []int{3})
	if !slices.Equal(cut, []int{1, 2}) || weight != 3 || code != api.OK {
		t.Errorf("Cut = %v, %v, %d, %d", cut, flows, weight, code)
	}
	slices.SortFunc(flows, func(a, b api.Flow) int { return a.Amount - b.Amount })
	if len(flows) != 2 || !slices.Equal(flows[0].Path, []int{0, 1, 3}) || flows[0].Amount != 1 || !slices.Equal(flows[1].Path, []int{0, 2, 3}) || flows[1].Amount != 2 {
		t.Errorf("Cut has the flows %v", flows)
	}
	if paths, code := mincut.Disjoint(g, []int{0}, []int{3}); len(paths) != 1 || code != api.OK {
		t.Errorf("Disjoint = %v, %d", paths, code)
	}
	if cut, flows, weight, code := mincut.Cut(g, []int{-1, 1, -1, -1}, []int{0}, []int{3}); len(cut) > 0 || len(flows) > 0 || weight != 0 || code != api.ErrMissing {
		t.Errorf("Cut = %v, %v, %d, %d", cut, flows, weight, code)
	}
	if cut, _, weight, code := mincut.Cut(g, []int{1, 1, -1, -1}, []int{0}, []int{3}); !slices.Equal(cut, []int{0}) || weight != 1 || code != api.OK {
		t.Errorf("Cut = %v, %d, %d", cut, weight, code)
	}
	one := api.Graph{Nodes: 1}
	cut, flows, weight, code = mincut.Cut(one, []int{7}, []int{0}, []int{0})
	if !slices.Equal(cut, []int{0}) || weight != 7 || code != api.OK || len(flows) != 1 || !slices.Equal(flows[0].Path, []int{0}) || flows[0].Amount != 7 {
		t.Errorf("Cut = %v, %v, %d, %d", cut, flows, weight, code)
	}
	if cut, flows, weight, code := mincut.Cut(one, []int{7}, nil, []int{0}); len(cut) > 0 || len(flows) > 0 || weight != 0 || code != api.OK {
		t.Errorf("Cut = %v, %v, %d, %d", cut, flows, weight, code)
	}
}

// TestMemory expects that results share no memory with arguments or with each other.
func TestMemory(t *testing.T) {
	x := instance{api.Graph{Nodes: 6, Edges: [][2]int{{0, 1}, {2, 3}, {4, 5}}}, []int{1, 1, 1, 1, 1, 1}, []int{0, 2, 4}, []int{1, 3, 5}}
	before := x.copyOf()
	cut, flows, _, _ := mincut.Cut(x.g, x.weight, x.from, x.to)
	paths, _ := mincut.Disjoint(x.g, x.from, x.to)
	if len(flows) != 3 || len(paths) != 3 {
		t.Fatalf("flows %v, paths %v", flows, paths)
	}
	for _, flow := range flows {
		paths = append(paths, flow.Path)
	}
	for i, path := range paths {
		other := paths[(i+1)%len(paths)]
		kept := slices.Clone(other)
		clear(path)
		_ = append(path, 9, 9, 9)
		if !slices.Equal(other, kept) {
			t.Error("two paths share memory")
		}
	}
	clear(cut)
	if !x.equal(before) {
		t.Error("a result shares memory with an argument")
	}
	x.check(t)
}
