package sample_test

import (
	"math/rand"
	"slices"
	"testing"

	"keyhole/api"
	"keyhole/sample"
)

// or is the diagram of the disjunction of two variables.
var or = api.Mtbdd{Vars: 2, Leaves: []int{0, 1}, Nodes: []api.Fork{{Var: 1, Low: 0, High: 1}, {Var: 0, Low: 2, High: 1}}, Root: 3}

var equal = sample.IsSame

func TestReduced(t *testing.T) {
	if a := sample.Reduced(2, []int{0, 1}, []int{0, 1, 1, 1}); !equal(a, or) {
		t.Errorf("or: %v", a)
	}
	want := api.Mtbdd{Vars: 9, Leaves: []int{-2, 0, 7}, Nodes: []api.Fork{{Var: 8, Low: 2, High: 0}, {Var: 8, Low: 1, High: 2}, {Var: 4, Low: 3, High: 4}}, Root: 5}
	if a := sample.Reduced(9, []int{4, 8}, []int{7, -2, 0, 7}); !equal(a, want) {
		t.Errorf("four values: %v", a)
	}
	if a := sample.Reduced(3, []int{0, 2}, []int{5, 5, 5, 5}); !equal(a, api.Mtbdd{Vars: 3, Leaves: []int{5}}) {
		t.Errorf("a constant: %v", a)
	}
}

func TestJoined(t *testing.T) {
	r := rand.New(rand.NewSource(1))
	op := func(l []int) int { return 2*l[0] - l[1] }
	for range 100 {
		w := sample.Small(5)
		draw := func() int { return r.Intn(3) }
		x, y := sample.Function(w, r.Intn, draw), sample.Function(w, r.Intn, draw)
		a, b := sample.Reduced(5, w.Over, x), sample.Reduced(5, w.Over, y)
		i := 0
		sample.Assignments(5, func(in []bool) {
			if sample.Value(a, in) != x[i] || sample.Value(b, in) != y[i] || sample.Rank(in) != i {
				t.Fatalf("the values for %v are %d and %d", in, sample.Value(a, in), sample.Value(b, in))
			}
			i++
		})
		if joined := sample.Joined(op, a, b); !equal(joined, sample.Reduced(5, w.Over, sample.Pointwise(op, x, y))) {
			t.Fatalf("joined from %v and %v: %v", x, y, joined)
		}
	}
}

func TestLast(t *testing.T) {
	for bound := range 50 {
		if n := sample.Last(bound, func(n int) int { return n * 3 }); n != bound/3 {
			t.Errorf("Last(%d) = %d", bound, n)
		}
	}
}

func TestWorlds(t *testing.T) {
	r := rand.New(rand.NewSource(1))
	large, whole := 0, 0
	for range 1000 {
		w := sample.SomeWorld(r.Intn)
		if w.Vars < 0 || w.Vars > api.MaxBit || len(w.Over) != min(6, w.Vars) || !slices.IsSorted(w.Over) || len(slices.Compact(slices.Clone(w.Over))) != len(w.Over) {
			t.Fatalf("the world %v", w)
		}
		if w.Vars == 0 {
			continue
		}
		large += min(1, w.Vars/20)
		i, v := w.Variable(r.Intn), r.Intn(2) == 1
		x := sample.Function(w, r.Intn, func() int { return r.Intn(100) })
		fixed := sample.Fixed(w, x, i, v)
		in := make([]bool, w.Vars)
		for j := range in {
			in[j] = r.Intn(2) == 1
		}
		got := fixed[sample.Rank(w.At(in))]
		in[i] = v
		if want := x[sample.Rank(w.At(in))]; got != want {
			t.Fatalf("the value of %v with the variable %d at %t is %d, want %d", x, i, v, got, want)
		}
		if !slices.Equal(x, fixed) {
			whole++
		}
	}
	if large < 100 || whole < 300 {
		t.Errorf("%d large worlds, %d functions that depend on a variable", large, whole)
	}
}

func TestSized(t *testing.T) {
	for _, nodes := range []int{0, 1, 3, 12, 13, 20, 29, 30, 100, 699, 700, 701, 4096} {
		for _, end := range []int{28, 40} {
			over := sample.Range(12, end, 1)
			a := sample.Sized(nodes, over...)
			outside := slices.ContainsFunc(a.Nodes, func(f api.Fork) bool { return !slices.Contains(over, f.Var) })
			if len(a.Nodes) != nodes || outside || !slices.Equal(a.Leaves, []int{0, 1}) {
				t.Errorf("%d nodes, want %d; leaves %v, other variables: %t", len(a.Nodes), nodes, a.Leaves, outside)
			}
		}
	}
	if a := sample.Chain(0, 39); !equal(a, api.Mtbdd{Vars: api.MaxBit, Leaves: []int{0, 1}, Nodes: []api.Fork{{Var: 39, Low: 0, High: 1}, {Var: 0, Low: 0, High: 2}}, Root: 3}) {
		t.Errorf("a chain: %v", a)
	}
}

func TestRivals(t *testing.T) {
	r := rand.New(rand.NewSource(1))
	l, choice := sample.Rivals(2, 2)
	counts := map[[4]int]int{}
	for range 2000 {
		in := make([]bool, api.MaxBit)
		for i := range in {
			in[i] = r.Intn(2) == 1
		}
		values := [4]int{sample.Value(l[0], in), sample.Value(l[1], in), sample.Value(l[2], in), sample.Value(choice, in)}
		if values[3] != values[2-values[0]] {
			t.Fatalf("the values for %v are %v", in, values)
		}
		counts[values]++
	}
	if len(counts) != 6 {
		t.Errorf("the values are %v", counts)
	}
}
