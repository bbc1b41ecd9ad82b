package mincut_test

import (
	"math"
	"math/rand"
	"slices"
	"testing"

	"keyhole/api"
	"keyhole/mincut"
)

// copyFlows returns a copy of flows.
func copyFlows(flows []api.Flow) []api.Flow {
	var list []api.Flow
	for _, flow := range flows {
		list = append(list, api.Flow{Path: slices.Clone(flow.Path), Amount: flow.Amount})
	}
	return list
}

// disturbed returns the certificate with at most two changes.
func disturbed(source *rand.Rand, x instance, cut []int, flows []api.Flow) ([]int, []api.Flow) {
	cut, flows = slices.Clone(cut), copyFlows(flows)
	for range source.Intn(3) {
		switch source.Intn(3) {
		case 0:
			cut = disturbedCut(source, x.g.Nodes, cut)
		case 1:
			flows = disturbedFlows(source, x.g.Nodes, flows)
		default:
			if len(flows) > 0 {
				i := source.Intn(len(flows))
				flows[i].Path = disturbedPath(source, x.g.Nodes, flows[i].Path)
			}
		}
	}
	return cut, flows
}

// disturbedCut returns the cut with one change.
func disturbedCut(source *rand.Rand, n int, cut []int) []int {
	switch source.Intn(5) {
	case 0:
		return append(cut, source.Intn(n+2)-1)
	case 1:
		cut = append(cut, source.Intn(n+1))
		slices.Sort(cut)
		return cut
	case 2:
		slices.Reverse(cut)
		return cut
	}
	if len(cut) > 0 {
		i := source.Intn(len(cut))
		return slices.Delete(cut, i, i+1)
	}
	return cut
}

// disturbedFlows returns the flows with one change that leaves their paths as they are.
func disturbedFlows(source *rand.Rand, n int, flows []api.Flow) []api.Flow {
	if len(flows) == 0 {
		return []api.Flow{{Path: []int{source.Intn(n + 1)}, Amount: source.Intn(3)}}
	}
	i, j := source.Intn(len(flows)), source.Intn(len(flows))
	switch source.Intn(6) {
	case 0:
		flows[i].Amount += source.Intn(5) - 2
	case 1:
		return slices.Delete(flows, i, i+1)
	case 2:
		return append(flows, copyFlows(flows[i:i+1])...)
	case 3: // the same amount along the same path in two flows
		flows[i].Amount--
		return append(flows, api.Flow{Path: slices.Clone(flows[i].Path), Amount: 1})
	case 4:
		flows[i].Amount++
		flows[j].Amount--
	default:
		flows[i], flows[j] = flows[j], flows[i]
	}
	return flows
}

// disturbedPath returns the path with one change.
func disturbedPath(source *rand.Rand, n int, path []int) []int {
	i := source.Intn(len(path) + 1)
	switch source.Intn(4) {
	case 0:
		return slices.Insert(path, i, source.Intn(n+2)-1)
	case 1:
		return path[i:]
	case 2:
		return path[:i]
	}
	if i < len(path) {
		path[i] = source.Intn(n+2) - 1
	}
	return path
}

func TestP7_2Random(t *testing.T) {
	source, met := rand.New(rand.NewSource(20)), map[api.Code]int{}
	for _, x := range samples(21, 8000) {
		cut, flows, _, code := mincut.Cut(x.g, x.weight, x.from, x.to)
		if code != api.OK {
			cut, flows = randomList(source, x.g.Nodes), nil
		}
		for range 8 {
			other, otherFlows := disturbed(source, x, cut, flows)
			before, cutBefore, flowsBefore := x.copyOf(), slices.Clone(other), copyFlows(otherFlows)
			code, want := mincut.Check(x.g, x.weight, x.from, x.to, other, otherFlows), x.code(other, otherFlows)
			if code != want {
				t.Fatalf("Check(%v, %v, %v) = %d, want %d", x, other, otherFlows, code, want)
			}
			sameFlow := func(a, b api.Flow) bool { return a.Amount == b.Amount && slices.Equal(a.Path, b.Path) }
			if !x.equal(before) || !slices.Equal(other, cutBefore) || !slices.EqualFunc(otherFlows, flowsBefore, sameFlow) {
				t.Fatalf("Check has changed an argument: %v, %v, %v", x, other, otherFlows)
			}
			met[code]++
		}
	}
	if met[api.OK] < 5000 || met[api.ErrProof] < 5000 {
		t.Errorf("the certificates have the codes %v", met)
	}
}

// proof is a certificate for an instance of a test, and the code of Check.
type proof struct {
	name  string
	cut   []int
	flows []api.Flow
	code  api.Code
}

// checkProofs runs Check on the proofs, and sees that the codes are also those of the definition.
func checkProofs(t *testing.T, x instance, proofs []proof) {
	t.Helper()
	for _, p := range proofs {
		if x.code(p.cut, p.flows) != p.code {
			t.Errorf("%s: the definition says %d", p.name, x.code(p.cut, p.flows))
		}
		if code := mincut.Check(x.g, x.weight, x.from, x.to, p.cut, p.flows); code != p.code {
			t.Errorf("%s: Check = %d, want %d", p.name, code, p.code)
		}
	}
}

func TestP7_2Cuts(t *testing.T) {
	g := api.Graph{Nodes: 6, Edges: [][2]int{{0, 1}, {0, 2}, {1, 3}, {2, 3}, {3, 4}}}
	x := instance{g, []int{5, 1, 2, -1, 0, 0}, []int{0, 0}, []int{3, 3}}
	flows := []api.Flow{{Path: []int{0, 1, 3}, Amount: 1}, {Path: []int{0, 2, 3}, Amount: 2}}
	checkProofs(t, x, []proof{
		{"the least cut", []int{1, 2}, flows, api.OK},
		{"with a node without weight", []int{1, 2, 5}, flows, api.OK},
		{"descending", []int{2, 1}, flows, api.ErrProof},
		{"with a repetition", []int{1, 1, 2}, flows, api.ErrProof},
		{"with a repetition without weight", []int{1, 2, 5, 5}, flows, api.ErrProof},
		{"unordered without weight", []int{1, 2, 5, 4}, flows, api.ErrProof},
		{"too small", []int{1}, flows[:1], api.ErrProof},
		{"empty", nil, nil, api.ErrProof},
		{"too heavy", []int{0}, flows, api.ErrProof},
		{"with too few flows", []int{1, 2}, flows[:1], api.ErrProof},
		{"without flows", []int{1, 2}, nil, api.ErrProof},
		{"with a node that cannot be cut", []int{3}, nil, api.ErrProof},
		{"with another node that cannot be cut", []int{1, 2, 3}, flows, api.ErrProof},
		{"with a node below 0", []int{-1, 1, 2}, flows, api.ErrProof},
		{"with a node above the others", []int{1, 2, 6}, flows, api.ErrProof},
		{"with the greatest int", []int{1, 2, math.MaxInt}, flows, api.ErrProof},
		{"with the least int", []int{math.MinInt, 1, 2}, flows, api.ErrProof},
	})
	uncut := instance{g, []int{-5, -5, 3, -5, 0, 0}, []int{0}, []int{3}}
	checkProofs(t, uncut, []proof{
		{"no cut", []int{2}, []api.Flow{{Path: []int{0, 2, 3}, Amount: 3}}, api.ErrProof},
		{"the nodes that cannot be cut", []int{0}, nil, api.ErrProof},
		{"their weight", []int{0}, []api.Flow{{Path: []int{0, 1, 3}, Amount: -5}}, api.ErrProof},
	})
}

func TestP7_2Flows(t *testing.T) {
	g := api.Graph{Nodes: 6, Edges: [][2]int{{0, 1}, {1, 2}, {2, 1}, {2, 3}, {1, 1}, {4, 2}, {3, 3}, {2, 5}}}
	x := instance{g, []int{-1, 2, 2, 9, 3, -7}, []int{0, 4, 1}, []int{3, 2, 5}}
	path := func(amount int, nodes ...int) api.Flow { return api.Flow{Path: nodes, Amount: amount} }
	cut := []int{2}
	checkProofs(t, x, []proof{
		{"one flow", cut, []api.Flow{path(2, 0, 1, 2, 3)}, api.OK},
		{"a shorter flow", cut, []api.Flow{path(2, 0, 1, 2)}, api.OK},
		{"a flow from within another one", cut, []api.Flow{path(2, 1, 2, 3)}, api.OK},
		{"a flow to a node without limit", cut, []api.Flow{path(2, 1, 2, 5)}, api.OK},
		{"two flows", cut, []api.Flow{path(1, 0, 1, 2, 3), path(1, 4, 2)}, api.OK},
		{"the same flow twice", cut, []api.Flow{path(1, 4, 2), path(1, 4, 2)}, api.OK},
		{"more than the weight", cut, []api.Flow{path(3, 4, 2)}, api.ErrProof},
		{"more than the weight in two flows", cut, []api.Flow{path(2, 4, 2), path(1, 1, 2)}, api.ErrProof},
		{"less than the weight", cut, []api.Flow{path(1, 4, 2)}, api.ErrProof},
		{"an amount of 0", cut, []api.Flow{path(2, 4, 2), path(0, 4, 2)}, api.ErrProof},
		{"an amount below 0", cut, []api.Flow{path(3, 4, 2), path(-1, 4, 2)}, api.ErrProof},
		{"the least amount", cut, []api.Flow{path(2, 4, 2), path(math.MinInt, 4, 2)}, api.ErrProof},
		{"an empty path", cut, []api.Flow{path(2, 4, 2), path(1)}, api.ErrProof},
		{"an empty path alone", cut, []api.Flow{path(2)}, api.ErrProof},
		{"a path from another node", cut, []api.Flow{path(2, 2, 3)}, api.ErrProof},
		{"a path to another node", cut, []api.Flow{path(2, 0, 1)}, api.ErrProof},
		{"a loop", cut, []api.Flow{path(2, 1, 1, 2)}, api.ErrProof},
		{"a loop at the end", cut, []api.Flow{path(2, 1, 2, 3, 3)}, api.ErrProof},
		{"a cycle", cut, []api.Flow{path(2, 1, 2, 1, 2)}, api.ErrProof},
		{"a cycle through the cut", cut, []api.Flow{path(1, 0, 1, 2, 1, 2)}, api.ErrProof},
		{"a missing edge", cut, []api.Flow{path(2, 0, 2)}, api.ErrProof},
		{"an edge backwards", cut, []api.Flow{path(2, 4, 2, 3, 2)}, api.ErrProof},
		{"an edge that is there backwards only", cut, []api.Flow{path(2, 1, 0, 2)}, api.ErrProof},
		{"a node that is not there", cut, []api.Flow{path(2, 4, 6)}, api.ErrProof},
		{"a first node that is not there", cut, []api.Flow{path(2, -1, 2)}, api.ErrProof},
		{"no node of the graph", cut, []api.Flow{path(2, math.MaxInt)}, api.ErrProof},
		{"the least int", cut, []api.Flow{path(2, 4, 2, math.MinInt)}, api.ErrProof},
		{"a flow beside the cut", cut, []api.Flow{path(2, 4, 3)}, api.ErrProof},
		{"a long path", cut, []api.Flow{{Path: make([]int, 1<<20), Amount: 2}}, api.ErrProof},
		{"amounts that overflow", cut, []api.Flow{path(1<<62, 4, 2), path(1<<62, 4, 2), path(1<<62, 4, 2), path(1<<62, 4, 2), path(2, 4, 2)}, api.ErrProof},
		{"great amounts", cut, []api.Flow{path(math.MaxInt, 4, 2), path(math.MaxInt, 4, 2), path(4, 4, 2)}, api.ErrProof},
	})
	overflow := instance{api.Graph{Nodes: 1}, []int{-1}, []int{0}, []int{0}}
	checkProofs(t, overflow, []proof{
		{"amounts that overflow to 0", nil, []api.Flow{path(1<<62, 0), path(1<<62, 0), path(1<<62, 0), path(1<<62, 0)}, api.ErrProof},
	})
	empty := instance{api.Graph{}, nil, nil, nil}
	checkProofs(t, empty, []proof{
		{"nothing", nil, nil, api.OK},
		{"a flow in nothing", nil, []api.Flow{path(1)}, api.ErrProof},
		{"a cut of nothing", []int{0}, nil, api.ErrProof},
	})
}

// TestP7_2Large checks a path with as many nodes, and flows with as great an amount, as there may be.
func TestP7_2Large(t *testing.T) {
	x := instance{g: api.Graph{Nodes: 4096}, from: []int{0}, to: []int{4095}}
	flow := api.Flow{Amount: api.MaxLoss}
	for node := range 4096 {
		flow.Path = append(flow.Path, node)
		x.weight = append(x.weight, api.MaxLoss)
		if node > 0 {
			x.g.Edges = append(x.g.Edges, [2]int{node - 1, node})
		}
	}
	checkProofs(t, x, []proof{
		{"a long path", []int{77}, []api.Flow{flow}, api.OK},
		{"two nodes of a long path", []int{77, 78}, []api.Flow{flow}, api.ErrProof},
		{"a long path twice", []int{77, 78}, []api.Flow{flow, flow}, api.ErrProof},
	})
	alone := instance{g: api.Graph{Nodes: 4096}, weight: x.weight, from: flow.Path, to: flow.Path}
	var flows []api.Flow
	for node := range 4096 {
		flows = append(flows, api.Flow{Path: []int{node}, Amount: api.MaxLoss})
	}
	checkProofs(t, alone, []proof{
		{"all nodes", flow.Path, flows, api.OK},
		{"all nodes but one", flow.Path[1:], flows[1:], api.ErrProof},
	})
}
