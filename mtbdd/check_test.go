package mtbdd_test

import (
	"math"
	"math/rand"
	"slices"
	"testing"

	"keyhole/api"
	"keyhole/mtbdd"
	"keyhole/sample"
)

// verdict is what Check has to return, by the sentences of the chapter.
func verdict(a api.Mtbdd) api.Code {
	size := len(a.Leaves)
	if a.Vars < 0 || a.Vars > api.MaxBit {
		return api.ErrRange
	}
	if size > api.MaxLeaf || len(a.Nodes) > api.MaxDiagram {
		return api.ErrLimit
	}
	for i, x := range a.Leaves {
		if x < -api.MaxValue || x > api.MaxValue || i > 0 && a.Leaves[i-1] >= x {
			return api.ErrArgument
		}
	}
	for i, f := range a.Nodes {
		if f.Var < 0 || f.Var > a.Vars-1 || f.Low == f.High || slices.Contains(a.Nodes[:i], f) {
			return api.ErrArgument
		}
		for _, at := range []int{f.Low, f.High} {
			if at < 0 || at > size+i-1 || at >= size && a.Nodes[at-size].Var <= f.Var {
				return api.ErrArgument
			}
		}
	}
	if a.Root < 0 || a.Root >= size+len(a.Nodes) {
		return api.ErrArgument
	}
	var finished []int
	var walk func(at int)
	walk = func(at int) {
		if slices.Contains(finished, at) {
			return
		}
		if at >= size {
			walk(a.Nodes[at-size].Low)
			walk(a.Nodes[at-size].High)
		}
		finished = append(finished, at)
	}
	walk(a.Root)
	inner := slices.DeleteFunc(slices.Clone(finished), func(at int) bool { return at < size })
	if !slices.Equal(inner, sample.Range(size, size+len(a.Nodes), 1)) || len(finished) != size+len(a.Nodes) {
		return api.ErrArgument
	}
	return api.OK
}

func testCheck(t *testing.T, a api.Mtbdd) api.Code {
	t.Helper()
	code := mtbdd.Check(a)
	if want := verdict(a); code != want {
		t.Fatalf("Check(%v) = %d, want %d", a, code, want)
	}
	return code
}

// The numbers of diagrams with few leaves and nodes are few enough for all of them, right or wrong.
func TestP28_1CheckAllSmall(t *testing.T) {
	leaves := [][]int{nil, {4}, {-1, 4}, {4, -1}, {3, 3}, {-1, 0, 4}, {-api.MaxValue, api.MaxValue}, {-api.MaxValue - 1, 0}, {0, api.MaxValue + 1}}
	valid := 0
	for vars := -1; vars <= 2; vars++ {
		for _, list := range leaves {
			var extend func(nodes []api.Fork)
			extend = func(nodes []api.Fork) {
				last := len(list) + len(nodes)
				for root := -1; root <= last; root++ {
					valid += number(testCheck(t, api.Mtbdd{Vars: vars, Leaves: list, Nodes: slices.Clone(nodes), Root: root}) == api.OK)
				}
				if len(nodes) == 2 {
					return
				}
				for v := -1; v <= 2; v++ {
					for low := -1; low <= last; low++ {
						for high := -1; high <= last; high++ {
							extend(append(slices.Clone(nodes), api.Fork{Var: v, Low: low, High: high}))
						}
					}
				}
			}
			extend(nil)
		}
	}
	// The constant of each number of variables; for each other pair of leaves 2 functions of 1 variable, and 12 of 2 variables that
	// have at most 2 nodes; for three leaves 6 * 2 functions of 2 variables that ask for the second one on one side alone.
	if want := 3 + 2*(2+12) + 12; valid != want {
		t.Errorf("%d diagrams, want %d", valid, want)
	}
}

// disturbed returns a with one thing changed.
func disturbed(r *rand.Rand, a api.Mtbdd) api.Mtbdd {
	a.Leaves, a.Nodes = slices.Clone(a.Leaves), slices.Clone(a.Nodes)
	size := len(a.Leaves) + len(a.Nodes)
	strange := []int{-1, 0, 1, len(a.Leaves), size, size - 1, math.MaxInt, math.MinInt, api.MaxValue + 1, -api.MaxValue - 1}
	other := strange[r.Intn(len(strange))]
	if r.Intn(2) == 0 {
		other = r.Intn(size + 1)
	}
	leaf := r.Intn(len(a.Leaves))
	kind := r.Intn(13)
	if len(a.Nodes) == 0 {
		kind = r.Intn(5)
	}
	node, otherNode := r.Intn(max(1, len(a.Nodes))), r.Intn(max(1, len(a.Nodes)))
	switch kind {
	case 0:
		a.Root = other
	case 1:
		a.Vars += r.Intn(5) - 2
	case 2:
		a.Leaves[leaf] = other
	case 3:
		a.Leaves = append(a.Leaves, other)
	case 4:
		a.Leaves = slices.Delete(a.Leaves, leaf, leaf+1)
	case 5:
		a.Nodes[node].Var = other
	case 6:
		a.Nodes[node].Low = other
	case 7:
		a.Nodes[node].High = other
	case 8:
		a.Nodes[node], a.Nodes[otherNode] = a.Nodes[otherNode], a.Nodes[node]
	case 9:
		a.Nodes[node] = a.Nodes[otherNode]
	case 10:
		a.Nodes[node].Low, a.Nodes[node].High = a.Nodes[node].High, a.Nodes[node].Low
	case 11:
		a.Leaves = append(a.Leaves, a.Leaves[len(a.Leaves)-1]+1)
		grow(a, len(a.Leaves)-1)
		a.Root++
	default:
		a.Nodes = append(a.Nodes, a.Nodes[node])
		a.Root = size
	}
	return a
}

// grow moves the references of a to nodes one on, as a leaf has been added to so many.
func grow(a api.Mtbdd, leaves int) {
	for i, f := range a.Nodes {
		if f.Low >= leaves {
			a.Nodes[i].Low++
		}
		if f.High >= leaves {
			a.Nodes[i].High++
		}
	}
}

func TestP28_1CheckDisturbed(t *testing.T) {
	counts := map[api.Code]int{}
	each(1, func(r *rand.Rand, w world) {
		a := draw(w, function(r, w))
		if testCheck(t, a) != api.OK {
			t.Fatalf("%v is not valid", a)
		}
		for range 10 {
			counts[testCheck(t, disturbed(r, a))]++
		}
	})
	if counts[api.OK] < 500 || counts[api.ErrArgument] < 5000 || counts[api.ErrRange] < 50 {
		t.Errorf("codes: %v", counts)
	}
}

func TestP28_1CheckExamples(t *testing.T) {
	fork := func(v, low, high int) api.Fork { return api.Fork{Var: v, Low: low, High: high} }
	examples := []struct {
		a    api.Mtbdd
		want api.Code
	}{
		{api.Mtbdd{}, api.ErrArgument},
		{api.Mtbdd{Leaves: []int{0}}, api.OK},
		{api.Mtbdd{Leaves: []int{0}, Nodes: []api.Fork{}}, api.OK},
		{api.Mtbdd{Vars: 2, Leaves: []int{5, 7}, Nodes: []api.Fork{fork(1, 0, 1), fork(0, 2, 0)}, Root: 3}, api.OK},
		{api.Mtbdd{Vars: 2, Leaves: []int{5, 7}, Nodes: []api.Fork{fork(1, 0, 1), fork(0, 2, 0)}, Root: 2}, api.ErrArgument},
		{api.Mtbdd{Vars: 2, Leaves: []int{7, 5}, Nodes: []api.Fork{fork(1, 1, 0), fork(0, 2, 1)}, Root: 3}, api.ErrArgument},
		{api.Mtbdd{Vars: 3, Leaves: []int{-4}}, api.OK},
		{api.Mtbdd{Vars: 1, Leaves: []int{0, 1, 2}, Nodes: []api.Fork{fork(0, 0, 1)}, Root: 3}, api.ErrArgument},
		{api.Mtbdd{Vars: 1, Leaves: []int{0, 1}, Root: 1}, api.ErrArgument},
		{api.Mtbdd{Vars: 2, Leaves: []int{0, 1, 2}, Nodes: []api.Fork{fork(1, 1, 2), fork(1, 0, 1), fork(0, 4, 3)}, Root: 5}, api.ErrArgument},
		{api.Mtbdd{Vars: 2, Leaves: []int{0, 1, 2}, Nodes: []api.Fork{fork(1, 0, 1), fork(1, 1, 2), fork(0, 3, 4)}, Root: 5}, api.OK},
		{api.Mtbdd{Vars: api.MaxBit, Leaves: []int{-api.MaxValue}}, api.OK},
		{api.Mtbdd{Vars: api.MaxBit + 1, Leaves: []int{0}}, api.ErrRange},
		{api.Mtbdd{Vars: -1, Leaves: make([]int, api.MaxLeaf+1), Nodes: make([]api.Fork, api.MaxDiagram+1)}, api.ErrRange},
		{api.Mtbdd{Leaves: make([]int, api.MaxLeaf+1), Root: -1}, api.ErrLimit},
		{api.Mtbdd{Nodes: make([]api.Fork, api.MaxDiagram+1), Root: -1}, api.ErrLimit},
		{api.Mtbdd{Leaves: make([]int, api.MaxLeaf), Nodes: make([]api.Fork, api.MaxDiagram)}, api.ErrArgument},
	}
	for i, e := range examples {
		if code := mtbdd.Check(e.a); code != e.want {
			t.Errorf("Check of the example %d = %d, want %d", i, code, e.want)
		}
	}
}

// tree returns a diagram of 12 variables that has as many leaves as possible, with one more variable that makes the values of what
// stands below a first one another one.
func tree(other int) api.Mtbdd {
	values := append(sample.Range(0, 4096, 1), slices.Repeat([]int{other}, 4096)...)
	return sample.Reduced(api.MaxBit, sample.Range(3, 16, 1), values)
}

func TestP28_1CheckLimits(t *testing.T) {
	a := tree(17)
	if code := mtbdd.Check(a); code != api.OK || len(a.Leaves) != api.MaxLeaf || len(a.Nodes) != api.MaxDiagram {
		t.Errorf("a diagram with %d leaves and %d nodes: %d", len(a.Leaves), len(a.Nodes), code)
	}
	a = tree(-1)
	if code := mtbdd.Check(a); code != api.ErrLimit || len(a.Leaves) != api.MaxLeaf+1 || len(a.Nodes) != api.MaxDiagram {
		t.Errorf("a diagram with %d leaves and %d nodes: %d", len(a.Leaves), len(a.Nodes), code)
	}
	a = sample.Sized(api.MaxDiagram+1, sample.Range(0, 30, 1)...)
	if code := mtbdd.Check(a); code != api.ErrLimit || len(a.Nodes) != api.MaxDiagram+1 {
		t.Errorf("a diagram with %d leaves and %d nodes: %d", len(a.Leaves), len(a.Nodes), code)
	}
}

// Every function has one valid diagram.
func TestP28_6Canonicity(t *testing.T) {
	for vars := range 3 {
		diagrams := map[string]bool{}
		functions(sample.Small(vars), []int{-3, 0, 8}, func(table []int) {
			a, code := mtbdd.FromTable(vars, table)
			if code != api.OK || mtbdd.Check(a) != api.OK {
				t.Fatalf("FromTable(%d, %v) = %v, %d", vars, table, a, code)
			}
			diagrams[text(a)] = true
		})
		if want := []int{3, 9, 81}[vars]; len(diagrams) != want {
			t.Errorf("%d diagrams over %d variables", len(diagrams), vars)
		}
	}
	each(2, func(r *rand.Rand, w world) {
		x := function(r, w)
		y := slices.Clone(x)
		if r.Intn(2) == 0 {
			y[r.Intn(len(y))] = r.Intn(3)
		}
		if a, b := draw(w, x), draw(w, y); mtbdd.Check(a) != api.OK || equal(a, b) != slices.Equal(x, y) {
			t.Fatalf("%v and %v are the diagrams of %v and %v", a, b, x, y)
		}
	})
}

// text returns a text that different diagrams do not share.
func text(a api.Mtbdd) string {
	l := []rune{rune(a.Vars), rune(a.Root), rune(len(a.Leaves))}
	for _, x := range a.Leaves {
		l = append(l, rune(x+100))
	}
	for _, f := range a.Nodes {
		l = append(l, rune(f.Var), rune(f.Low), rune(f.High))
	}
	return string(l)
}
