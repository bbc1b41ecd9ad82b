package bdd_test

import (
	"math"
	"math/rand"
	"slices"
	"testing"

	"keyhole/api"
	"keyhole/bdd"
	"keyhole/sample"
)

// verdict is what Check has to return, by the sentences of the chapter.
func verdict(b api.Bdd) api.Code {
	if b.Vars < 0 || b.Vars > api.MaxBit {
		return api.ErrRange
	}
	if len(b.Nodes) > api.MaxDiagram {
		return api.ErrLimit
	}
	if b.Root < 0 || b.Root > 1+len(b.Nodes) {
		return api.ErrArgument
	}
	for i, f := range b.Nodes {
		if f.Var < 0 || f.Var > b.Vars-1 || f.Low == f.High || slices.Contains(b.Nodes[:i], f) {
			return api.ErrArgument
		}
		for _, at := range []int{f.Low, f.High} {
			if at < 0 || at > 1+i || at >= 2 && b.Nodes[at-2].Var <= f.Var {
				return api.ErrArgument
			}
		}
	}
	var finished []int
	var walk func(at int)
	walk = func(at int) {
		if at < 2 || slices.Contains(finished, at-2) {
			return
		}
		walk(b.Nodes[at-2].Low)
		walk(b.Nodes[at-2].High)
		finished = append(finished, at-2)
	}
	walk(b.Root)
	if !slices.Equal(finished, sample.Range(0, len(b.Nodes), 1)) {
		return api.ErrArgument
	}
	return api.OK
}

func testCheck(t *testing.T, b api.Bdd) api.Code {
	t.Helper()
	code := bdd.Check(b)
	if want := verdict(b); code != want {
		t.Fatalf("Check(%v) = %d, want %d", b, code, want)
	}
	return code
}

// The numbers of diagrams with n nodes over at most 2 variables are few enough for all of them, right or wrong.
func TestP27_1CheckAllSmall(t *testing.T) {
	valid := map[int][]api.Bdd{}
	for vars := -1; vars <= 2; vars++ {
		var extend func(nodes []api.Fork)
		extend = func(nodes []api.Fork) {
			for root := -1; root <= 2+len(nodes); root++ {
				b := api.Bdd{Vars: vars, Nodes: slices.Clone(nodes), Root: root}
				if testCheck(t, b) == api.OK {
					valid[vars] = append(valid[vars], b)
				}
			}
			if len(nodes) == 2 {
				return
			}
			for v := -1; v <= 2; v++ {
				for low := -1; low <= 2+len(nodes); low++ {
					for high := -1; high <= 2+len(nodes); high++ {
						extend(append(slices.Clone(nodes), api.Fork{Var: v, Low: low, High: high}))
					}
				}
			}
		}
		extend(nil)
	}
	// Of the 16 functions of 2 variables all but both exclusive ones have at most 2 nodes.
	if len(valid[-1]) != 0 || len(valid[0]) != 2 || len(valid[1]) != 4 || len(valid[2]) != 14 {
		t.Errorf("%d, %d and %d diagrams", len(valid[0]), len(valid[1]), len(valid[2]))
	}
}

// disturbed returns b with one thing changed.
func disturbed(r *rand.Rand, b api.Bdd) api.Bdd {
	b.Nodes = slices.Clone(b.Nodes)
	strange := []int{-1, 0, 1, 2, len(b.Nodes) + 1, len(b.Nodes) + 2, math.MaxInt, math.MinInt}
	other := strange[r.Intn(len(strange))]
	if r.Intn(2) == 0 {
		other = r.Intn(len(b.Nodes) + 3)
	}
	if len(b.Nodes) == 0 || r.Intn(9) == 0 {
		b.Root = other
		return b
	}
	i, j := r.Intn(len(b.Nodes)), r.Intn(len(b.Nodes))
	switch r.Intn(8) {
	case 0:
		b.Vars += r.Intn(5) - 2
	case 1:
		b.Nodes[i].Var = other
	case 2:
		b.Nodes[i].Low = other
	case 3:
		b.Nodes[i].High = other
	case 4:
		b.Nodes[i], b.Nodes[j] = b.Nodes[j], b.Nodes[i]
	case 5:
		b.Nodes[i] = b.Nodes[j]
	case 6:
		b.Nodes[i].Low, b.Nodes[i].High = b.Nodes[i].High, b.Nodes[i].Low
	default:
		b.Nodes = append(b.Nodes, b.Nodes[i])
		b.Root = len(b.Nodes) + 1
	}
	return b
}

func TestP27_1CheckDisturbed(t *testing.T) {
	counts := map[api.Code]int{}
	each(1, func(r *rand.Rand, w world) {
		b := draw(w, function(r, w))
		if testCheck(t, b) != api.OK {
			t.Fatalf("%v is not valid", b)
		}
		for range 10 {
			counts[testCheck(t, disturbed(r, b))]++
		}
	})
	if counts[api.OK] < 500 || counts[api.ErrArgument] < 5000 || counts[api.ErrRange] < 50 {
		t.Errorf("codes: %v", counts)
	}
}

// The nodes of a diagram in another order, in which each one stands behind those to which it refers, are not in canonical form.
func TestP27_1CheckOrder(t *testing.T) {
	wrong := 0
	each(2, func(r *rand.Rand, w world) {
		b := draw(w, function(r, w))
		other := api.Bdd{Vars: b.Vars}
		places := map[int]int{0: 0, 1: 1}
		for len(other.Nodes) < len(b.Nodes) {
			i := r.Intn(len(b.Nodes))
			low, hasLow := places[b.Nodes[i].Low]
			high, hasHigh := places[b.Nodes[i].High]
			if _, ok := places[i+2]; !ok && hasLow && hasHigh {
				other.Nodes = append(other.Nodes, api.Fork{Var: b.Nodes[i].Var, Low: low, High: high})
				places[i+2] = len(other.Nodes) + 1
			}
		}
		other.Root = places[b.Root]
		code := testCheck(t, other)
		if (code == api.OK) != equal(b, other) {
			t.Fatalf("Check(%v) = %d", other, code)
		}
		wrong += number(code != api.OK)
	})
	if wrong < 300 {
		t.Errorf("only %d other orders", wrong)
	}
}

func TestP27_1CheckExamples(t *testing.T) {
	examples := []struct {
		b    api.Bdd
		want api.Code
	}{
		{api.Bdd{}, api.OK},
		{api.Bdd{Nodes: []api.Fork{}, Root: 1}, api.OK},
		{api.Bdd{Vars: 2, Nodes: []api.Fork{{Var: 0, Low: 0, High: 1}}, Root: 2}, api.OK},
		{api.Bdd{Vars: 2, Nodes: []api.Fork{{Var: 1, Low: 0, High: 1}, {Var: 0, Low: 0, High: 2}}, Root: 3}, api.OK},
		{api.Bdd{Vars: 2, Nodes: []api.Fork{{Var: 0, Low: 0, High: 1}, {Var: 1, Low: 0, High: 1}}, Root: 3}, api.ErrArgument},
		{api.Bdd{Vars: 2, Nodes: []api.Fork{{Var: 1, Low: 0, High: 1}, {Var: 1, Low: 0, High: 1}, {Var: 0, Low: 2, High: 3}}, Root: 4}, api.ErrArgument},
		{api.Bdd{Vars: 2, Nodes: []api.Fork{{Var: 1, Low: 0, High: 1}, {Var: 0, Low: 2, High: 2}}, Root: 3}, api.ErrArgument},
		{api.Bdd{Vars: 2, Nodes: []api.Fork{{Var: 1, Low: 0, High: 1}}, Root: 1}, api.ErrArgument},
		{api.Bdd{Root: 2}, api.ErrArgument},
		{api.Bdd{Root: -1}, api.ErrArgument},
		{api.Bdd{Vars: api.MaxBit}, api.OK},
		{api.Bdd{Vars: api.MaxBit + 1}, api.ErrRange},
		{api.Bdd{Vars: -1, Root: -1, Nodes: make([]api.Fork, api.MaxDiagram+1)}, api.ErrRange},
		{api.Bdd{Root: -1, Nodes: make([]api.Fork, api.MaxDiagram+1)}, api.ErrLimit},
		{api.Bdd{Nodes: make([]api.Fork, api.MaxDiagram)}, api.ErrArgument},
	}
	for _, e := range examples {
		if code := bdd.Check(e.b); code != e.want {
			t.Errorf("Check(%d variables, %d nodes, root %d) = %d, want %d", e.b.Vars, len(e.b.Nodes), e.b.Root, code, e.want)
		}
	}
}

func TestP27_1CheckLimits(t *testing.T) {
	if code := bdd.Check(sized(api.MaxDiagram)); code != api.OK {
		t.Errorf("a diagram with MaxDiagram nodes: %d", code)
	}
	if code := bdd.Check(sized(api.MaxDiagram + 1)); code != api.ErrLimit {
		t.Errorf("a diagram with more nodes: %d", code)
	}
}

// Every function has one valid diagram: those of all functions are valid and different, and there are no more of them.
func TestP27_6Canonicity(t *testing.T) {
	for vars := range 4 {
		diagrams := map[string]bool{}
		functions(sample.Small(vars), func(table []bool) {
			b, code := bdd.FromTable(vars, table)
			if code != api.OK || bdd.Check(b) != api.OK {
				t.Fatalf("FromTable(%d, %v) = %v, %d", vars, table, b, code)
			}
			diagrams[text(b)] = true
		})
		if len(diagrams) != 1<<(1<<vars) {
			t.Errorf("%d diagrams over %d variables", len(diagrams), vars)
		}
	}
	each(3, func(r *rand.Rand, w world) {
		x := function(r, w)
		y := slices.Clone(x)
		if r.Intn(2) == 0 {
			y[r.Intn(len(y))] = r.Intn(2) == 0
		}
		if b, c := draw(w, x), draw(w, y); bdd.Check(b) != api.OK || equal(b, c) != slices.Equal(x, y) {
			t.Fatalf("%v and %v are the diagrams of %v and %v", b, c, x, y)
		}
	})
}

// text returns a text that different diagrams do not share.
func text(b api.Bdd) string {
	l := []rune{rune(b.Vars), rune(b.Root)}
	for _, f := range b.Nodes {
		l = append(l, rune(f.Var), rune(f.Low), rune(f.High))
	}
	return string(l)
}
