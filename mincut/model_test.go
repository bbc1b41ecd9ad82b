package mincut_test

import (
	"math"
	"math/big"
	"math/rand"
	"slices"
	"testing"

	"keyhole/api"
	"keyhole/mincut"
)

// instance is what a cut is asked for.
type instance struct {
	g        api.Graph
	weight   []int
	from, to []int
}

// copyOf returns a copy of x.
func (x instance) copyOf() instance {
	return instance{api.Graph{Nodes: x.g.Nodes, Edges: slices.Clone(x.g.Edges)}, slices.Clone(x.weight), slices.Clone(x.from), slices.Clone(x.to)}
}

// equal reports whether x and y are equal to the letter.
func (x instance) equal(y instance) bool {
	return x.g.Nodes == y.g.Nodes && slices.Equal(x.g.Edges, y.g.Edges) && slices.Equal(x.weight, y.weight) && slices.Equal(x.from, y.from) && slices.Equal(x.to, y.to)
}

// reversed returns x with all edges in the opposite direction and the lists exchanged.
func (x instance) reversed() instance {
	y := x.copyOf()
	for i, edge := range y.g.Edges {
		y.g.Edges[i] = [2]int{edge[1], edge[0]}
	}
	y.from, y.to = y.to, y.from
	return y
}

// connected reports whether there is a path of open nodes.
func (x instance) connected(open func(node int) bool) bool {
	met := make([]bool, x.g.Nodes)
	for _, node := range x.from {
		met[node] = open(node)
	}
	for grows := true; grows; {
		grows = false
		for _, edge := range x.g.Edges {
			if met[edge[0]] && !met[edge[1]] && open(edge[1]) {
				met[edge[1]], grows = true, true
			}
		}
	}
	return slices.ContainsFunc(x.to, func(node int) bool { return met[node] })
}

// separated reports whether each path contains a node of cut.
func (x instance) separated(cut []int) bool {
	return !x.connected(func(node int) bool { return !slices.Contains(cut, node) })
}

// weigh returns the weight of cut, and whether it is a cut.
func (x instance) weigh(cut []int) (total int, ok bool) {
	for i, node := range cut {
		if node < 0 || node >= x.g.Nodes || x.weight[node] < 0 || i > 0 && node <= cut[i-1] {
			return 0, false
		}
		total += x.weight[node]
	}
	return total, x.separated(cut)
}

// admissible returns the amount of all flows, and whether they are admissible.
func (x instance) admissible(flows []api.Flow) (total *big.Int, ok bool) {
	edges := map[[2]int]bool{}
	for _, edge := range x.g.Edges {
		edges[edge] = true
	}
	total = new(big.Int)
	through := make([]*big.Int, x.g.Nodes)
	for node := range through {
		through[node] = new(big.Int)
	}
	for _, flow := range flows {
		last := len(flow.Path) - 1
		if flow.Amount < 1 || last < 0 || !slices.Contains(x.from, flow.Path[0]) || !slices.Contains(x.to, flow.Path[last]) {
			return nil, false
		}
		met := map[int]bool{}
		for i, node := range flow.Path {
			if met[node] || i > 0 && !edges[[2]int{flow.Path[i-1], node}] {
				return nil, false
			}
			met[node] = true
			through[node].Add(through[node], big.NewInt(int64(flow.Amount)))
		}
		total.Add(total, big.NewInt(int64(flow.Amount)))
	}
	for node, sum := range through {
		if x.weight[node] >= 0 && sum.Cmp(big.NewInt(int64(x.weight[node]))) > 0 {
			return nil, false
		}
	}
	return total, true
}

// code returns the code that Check specifies for a certificate of x, which is valid.
func (x instance) code(cut []int, flows []api.Flow) api.Code {
	weight, isCut := x.weigh(cut)
	amount, admissible := x.admissible(flows)
	if !isCut || !admissible || amount.Cmp(big.NewInt(int64(weight))) != 0 {
		return api.ErrProof
	}
	return api.OK
}

// subsets returns all ascending lists of numbers below n.
func subsets(n int) [][]int {
	lists := make([][]int, 1<<n)
	for bits := range lists {
		for i := range n {
			if bits>>i&1 == 1 {
				lists[bits] = append(lists[bits], i)
			}
		}
	}
	return lists
}

// least returns the least weight of a cut, found among all of them, and whether there is one.
func (x instance) least() (least int, ok bool) {
	least = math.MaxInt
	for _, cut := range subsets(x.g.Nodes) {
		if weight, isCut := x.weigh(cut); isCut {
			least, ok = min(least, weight), true
		}
	}
	return least, ok
}

// check asks Cut for x, and fails unless the result is what the chapter specifies. It returns the weight, or -1 if there is no cut.
func (x instance) check(t *testing.T) int {
	t.Helper()
	cut, flows, weight, code := mincut.Cut(x.g, x.weight, x.from, x.to)
	if code == api.ErrMissing {
		if len(cut) > 0 || len(flows) > 0 || weight != 0 || !x.connected(func(node int) bool { return x.weight[node] < 0 }) {
			t.Fatalf("Cut(%v) = %v, %v, %d, ErrMissing", x, cut, flows, weight)
		}
		return -1
	}
	if total, ok := x.weigh(cut); code != api.OK || !ok || total != weight {
		t.Fatalf("Cut(%v) = %v, %v, %d, %d", x, cut, flows, weight, code)
	}
	if x.code(cut, flows) != api.OK {
		t.Fatalf("Cut(%v) = %v, %v: no proof", x, cut, flows)
	}
	if code := mincut.Check(x.g, x.weight, x.from, x.to, cut, flows); code != api.OK {
		t.Fatalf("Check(%v, %v, %v) = %d", x, cut, flows, code)
	}
	return weight
}

// randomList returns a list of nodes in any order, with repetitions, of at most three different nodes.
func randomList(source *rand.Rand, n int) []int {
	var list []int
	for range source.Intn(4) {
		if n > 0 {
			list = append(list, source.Intn(n))
		}
	}
	for range source.Intn(3) {
		if len(list) > 0 {
			list = append(list, list[source.Intn(len(list))])
		}
	}
	return list
}

// randomInstance returns an instance with n nodes of which one in uncut cannot be cut, and with weights up to high.
func randomInstance(source *rand.Rand, n, edges, uncut, high int) instance {
	x := instance{g: api.Graph{Nodes: n}, from: randomList(source, n), to: randomList(source, n)}
	for range edges {
		if n > 0 {
			x.g.Edges = append(x.g.Edges, [2]int{source.Intn(n), source.Intn(n)})
		}
	}
	for range n {
		weight := source.Intn(high + 1)
		if source.Intn(uncut) == 0 {
			weight = []int{-1, -2, math.MinInt}[source.Intn(3)]
		}
		x.weight = append(x.weight, weight)
	}
	return x
}

// samples returns random instances with up to six nodes.
func samples(seed int64, number int) []instance {
	source := rand.New(rand.NewSource(seed))
	var list []instance
	for i := range number {
		n := i % 7
		list = append(list, randomInstance(source, n, source.Intn(2*n+1), 2+source.Intn(5), 1+source.Intn(6)))
	}
	return list
}

// brokenGraphs returns graphs that are not valid.
func brokenGraphs() []api.Graph {
	return []api.Graph{
		{Nodes: -1}, {Nodes: math.MinInt}, {Nodes: 4097}, {Nodes: math.MaxInt}, {Nodes: 2, Edges: make([][2]int, 1<<20+1)},
		{Edges: [][2]int{{0, 0}}}, {Nodes: 2, Edges: [][2]int{{0, 1}, {0, 2}}}, {Nodes: 2, Edges: [][2]int{{-1, 0}}},
	}
}
