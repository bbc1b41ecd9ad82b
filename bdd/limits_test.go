package bdd_test

import (
	"testing"

	"keyhole/api"
	"keyhole/bdd"
	"keyhole/sample"
)

// testLimit tests an operation whose result grows with n, and is made larger by a conjunction with another diagram.
func testLimit(t *testing.T, name string, result func(n int, pad api.Bdd) (got api.Bdd, code api.Code, want api.Bdd)) {
	t.Helper()
	pad := func(nodes int) api.Bdd { return binary(sample.Sized(nodes, sample.Range(24, 36, 1)...)) }
	size := func(n int) int {
		_, _, want := result(n, pad(0))
		return len(want.Nodes)
	}
	n := sample.Last(api.MaxDiagram, size)
	left := api.MaxDiagram - size(n)
	got, code, want := result(n, pad(left))
	show(t, name, got, code, want, api.OK)
	if len(want.Nodes) != api.MaxDiagram {
		t.Errorf("%s: %d nodes", name, len(want.Nodes))
	}
	got, code, want = result(n, pad(left+1))
	show(t, name, got, code, api.Bdd{}, api.ErrLimit)
	if len(want.Nodes) != api.MaxDiagram+1 {
		t.Errorf("%s: %d nodes", name, len(want.Nodes))
	}
	got, code, want = result(n+50, pad(0))
	show(t, name, got, code, api.Bdd{}, api.ErrLimit)
	if len(want.Nodes) <= api.MaxDiagram+1 {
		t.Errorf("%s: %d nodes", name, len(want.Nodes))
	}
}

func TestP27_3ApplyLimit(t *testing.T) {
	testLimit(t, "Apply", func(n int, pad api.Bdd) (api.Bdd, api.Code, api.Bdd) {
		a, b := beginning(1, n, sample.Range(0, 20, 2)...), joined(and, pad, beginning(2, 1<<10, sample.Range(1, 20, 2)...))
		got, code := bdd.Apply(8, a, b)
		return got, code, joined(and, a, b)
	})
}

func TestP27_3IteLimit(t *testing.T) {
	testLimit(t, "Ite", func(n int, pad api.Bdd) (api.Bdd, api.Code, api.Bdd) {
		c := beginning(1, n, sample.Range(0, 24, 3)...)
		a, b := joined(and, pad, beginning(2, 1<<8, sample.Range(1, 24, 3)...)), joined(and, pad, beginning(3, 1<<8, sample.Range(2, 24, 3)...))
		got, code := bdd.Ite(c, a, b)
		return got, code, joined(ite, c, a, b)
	})
}

func TestP27_3LargestNot(t *testing.T) {
	b := sized(api.MaxDiagram)
	got, code := bdd.Not(b)
	show(t, "Not", got, code, joined(not, b), api.OK)
	got, code = bdd.Not(got)
	show(t, "Not", got, code, b, api.OK)
	got, code = bdd.Apply(6, b, b)
	show(t, "Apply", got, code, api.Bdd{Vars: api.MaxBit}, api.OK)
	got, code = bdd.Apply(9, b, joined(not, b))
	show(t, "Apply", got, code, api.Bdd{Vars: api.MaxBit}, api.OK)
	got, code = bdd.Ite(chain(39, 40), b, b)
	show(t, "Ite", got, code, b, api.OK)
}

func TestP27_4ComposeLimit(t *testing.T) {
	testLimit(t, "Compose", func(n int, pad api.Bdd) (api.Bdd, api.Code, api.Bdd) {
		g := beginning(1, n, sample.Range(0, 22, 2)...)
		yes, no := joined(and, pad, beginning(2, 1<<5, sample.Range(3, 23, 4)...)), joined(and, pad, beginning(3, 1<<5, sample.Range(5, 23, 4)...))
		got, code := bdd.Compose(joined(ite, chain(1, 2), yes, no), 1, g)
		return got, code, joined(ite, g, yes, no)
	})
}

func TestP27_4QuantifyLimit(t *testing.T) {
	for i, op := range []func(l []bool) bool{or, and} {
		quantify := []func(api.Bdd, []int) (api.Bdd, api.Code){bdd.Exists, bdd.Forall}[i]
		testLimit(t, "the quantified", func(n int, pad api.Bdd) (api.Bdd, api.Code, api.Bdd) {
			a, b := joined(and, pad, beginning(1, n, sample.Range(1, 21, 2)...)), joined(and, pad, beginning(2, 1<<10, sample.Range(2, 21, 2)...))
			got, code := quantify(joined(ite, chain(0, 1), a, b), []int{0})
			return got, code, joined(op, a, b)
		})
	}
}

// The variables are quantified one after the other, and no diagram on the way may be too large.
func TestP27_4QuantifyOnTheWay(t *testing.T) {
	a, b := beginning(1, 1<<10, sample.Range(1, 21, 2)...), beginning(2, 1<<10, sample.Range(2, 21, 2)...)
	whole := joined(ite, chain(0, 1), a, b)
	first := append([]int{0}, sample.Range(1, 21, 2)...)
	last := append(sample.Range(1, 21, 2), 0)
	for i, quantify := range []func(api.Bdd, []int) (api.Bdd, api.Code){bdd.Exists, bdd.Forall} {
		got, code := quantify(whole, first)
		show(t, "the quantified", got, code, api.Bdd{}, api.ErrLimit)
		got, code = quantify(whole, last)
		want := []api.Bdd{{Vars: api.MaxBit, Root: 1}, {Vars: api.MaxBit}}[i]
		show(t, "the quantified", got, code, want, api.OK)
	}
}

// Implies has no limit of its own.
func TestP27_5ImpliesLarge(t *testing.T) {
	a, b := beginning(1, 1<<10, sample.Range(1, 21, 2)...), beginning(2, 1<<10, sample.Range(2, 21, 2)...)
	if got, code := bdd.Apply(4, a, b); code != api.ErrLimit {
		t.Errorf("the difference: %d nodes, %d", len(got.Nodes), code)
	}
	if v, code := bdd.Implies(a, b); v || code != api.OK {
		t.Errorf("Implies = %t, %d", v, code)
	}
	// b is true where a is, but for one assignment.
	a = sized(api.MaxDiagram - api.MaxBit)
	first, _ := bdd.First(joined(not, a))
	point := api.Bdd{Vars: api.MaxBit, Root: 1}
	for i, v := range first {
		x := chain(i, i+1)
		if !v {
			x = joined(not, x)
		}
		point = joined(and, point, x)
	}
	if v, code := bdd.Implies(joined(or, a, point), a); v || code != api.OK {
		t.Errorf("Implies = %t, %d", v, code)
	}
	if v, code := bdd.Implies(a, a); !v || code != api.OK {
		t.Errorf("Implies = %t, %d", v, code)
	}
}

// Each of two diagrams keeps 10 bits in mind, so that a million pairs of references are met; and yet nothing is left.
func TestP27_3ManyPairs(t *testing.T) {
	here := chain(20, 21)
	a := joined(and, here, binary(sample.Same(0, 21, 10)))
	b := joined(and, joined(not, here), binary(sample.Same(10, 21, 10)))
	got, code := bdd.Apply(8, a, b)
	show(t, "Apply", got, code, api.Bdd{Vars: api.MaxBit}, api.OK)
	if v, code := bdd.Implies(a, joined(not, b)); !v || code != api.OK {
		t.Errorf("Implies = %t, %d", v, code)
	}
	if v, code := bdd.Implies(a, b); v || code != api.OK {
		t.Errorf("Implies = %t, %d", v, code)
	}
}

// There are more than a hundred million triples of references.
func TestP27_3ManyTriples(t *testing.T) {
	l, want := sample.Rivals(0, 9)
	got, code := bdd.Ite(binary(l[0]), binary(l[1]), binary(l[2]))
	show(t, "Ite", got, code, binary(want), api.OK)
}

func TestP27_4ManyTriples(t *testing.T) {
	l, want := sample.Rivals(1, 8)
	got, code := bdd.Compose(joined(ite, chain(0, 1), binary(l[1]), binary(l[2])), 0, binary(l[0]))
	show(t, "Compose", got, code, binary(want), api.OK)
}

// parity returns the diagram that is true where an odd number of variables is. It has two nodes for nearly each variable, but far too
// many paths to follow each of them.
func parity() api.Bdd {
	b := api.Bdd{Vars: api.MaxBit}
	for i := range api.MaxBit {
		b = joined(func(l []bool) bool { return l[0] != l[1] }, b, chain(i, i+1))
	}
	return b
}

func TestP27_3Parity(t *testing.T) {
	odd, x := parity(), chain(17, 18)
	even := joined(not, odd)
	got, code := bdd.Not(odd)
	show(t, "Not", got, code, even, api.OK)
	got, code = bdd.Apply(6, odd, even)
	show(t, "Apply", got, code, api.Bdd{Vars: api.MaxBit, Root: 1}, api.OK)
	got, code = bdd.Ite(x, odd, even)
	rest, _ := bdd.Restrict(even, 17, false)
	show(t, "Ite", got, code, rest, api.OK)
	got, code = bdd.Compose(odd, 17, x)
	show(t, "Compose", got, code, odd, api.OK)
	got, code = bdd.Forall(odd, []int{39})
	show(t, "Forall", got, code, api.Bdd{Vars: api.MaxBit}, api.OK)
	if n, code := bdd.Count(odd); n != 1<<39 || code != api.OK {
		t.Errorf("Count = %d, %d", n, code)
	}
	for _, e := range []struct {
		a, b api.Bdd
		want bool
	}{{odd, odd, true}, {odd, even, false}, {joined(and, x, odd), odd, true}} {
		if v, code := bdd.Implies(e.a, e.b); v != e.want || code != api.OK {
			t.Errorf("Implies = %t, %d", v, code)
		}
	}
}
