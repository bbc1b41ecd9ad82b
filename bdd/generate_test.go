package bdd_test

import (
	"math/rand"
	"slices"
	"testing"

	"keyhole/api"
	"keyhole/sample"
)

type world = sample.World

var binary = sample.Binary

// function returns a random function; some are often true, some seldom.
func function(r *rand.Rand, w world) []bool {
	often := []int{1, 4, 8, 12, 15}[r.Intn(5)]
	return sample.Function(w, r.Intn, func() bool { return r.Intn(16) < often })
}

// functions calls visit with all functions.
func functions(w world, visit func(table []bool)) {
	sample.Assignments(1<<len(w.Over), visit)
}

// draw returns the diagram of a function.
func draw(w world, table []bool) api.Bdd {
	values := sample.Pointwise(func(l []bool) int { return number(l[0]) }, table)
	return binary(sample.Reduced(w.Vars, w.Over, values))
}

// each calls visit with random worlds.
func each(seed int64, visit func(r *rand.Rand, w world)) {
	r := rand.New(rand.NewSource(seed))
	for range 1500 {
		visit(r, sample.SomeWorld(r.Intn))
	}
}

func number(v bool) int {
	if v {
		return 1
	}
	return 0
}

func and(l []bool) bool { return !slices.Contains(l, false) }
func or(l []bool) bool  { return slices.Contains(l, true) }
func not(l []bool) bool { return !l[0] }
func ite(l []bool) bool { return l[0] && l[1] || !l[0] && l[2] }

// leaved returns b as a diagram with the leaves 0 and 1.
func leaved(b api.Bdd) api.Mtbdd {
	return api.Mtbdd{Vars: b.Vars, Leaves: []int{0, 1}, Nodes: b.Nodes, Root: b.Root}
}

// joined returns the diagram, of any size, of op of diagrams.
func joined(op func(l []bool) bool, diagrams ...api.Bdd) api.Bdd {
	var all []api.Mtbdd
	for _, b := range diagrams {
		all = append(all, leaved(b))
	}
	return binary(sample.Joined(func(l []int) int {
		var values []bool
		for _, x := range l {
			values = append(values, x == 1)
		}
		return number(op(values))
	}, all...))
}

// chain returns the conjunction of the variables from a first to before another one.
func chain(first, end int) api.Bdd {
	return binary(sample.Chain(sample.Range(first, end, 1)...))
}

// beginning returns a function that is irregular for its first n assignments and false for the others.
func beginning(seed, n int, over ...int) api.Bdd {
	return binary(sample.Beginning(seed, n, over...))
}

// sized returns a diagram with so many nodes.
func sized(nodes int) api.Bdd {
	return binary(sample.Sized(nodes, sample.Range(0, 30, 1)...))
}

func equal(a, b api.Bdd) bool {
	return a.Vars == b.Vars && a.Root == b.Root && slices.Equal(a.Nodes, b.Nodes)
}

// show says of which size a diagram is, and what it is if it is small.
func show(t *testing.T, name string, b api.Bdd, code api.Code, want api.Bdd, wanted api.Code) {
	t.Helper()
	if code == wanted && equal(b, want) {
		return
	}
	if len(b.Nodes)+len(want.Nodes) > 100 {
		t.Errorf("%s = %d nodes, %d; want %d nodes, %d", name, len(b.Nodes), code, len(want.Nodes), wanted)
		return
	}
	t.Errorf("%s = %v, %d; want %v, %d", name, b, code, want, wanted)
}
