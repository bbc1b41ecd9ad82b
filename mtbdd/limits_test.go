package mtbdd_test

import (
	"slices"
	"testing"

	"keyhole/api"
	"keyhole/mtbdd"
	"keyhole/sample"
)

// product returns the product of the values of diagrams.
func product(l []int) int {
	all := 1
	for _, x := range l {
		all *= x
	}
	return all
}

// chosen returns the second value where the first one is 1, and otherwise the third one.
func chosen(l []int) int { return l[2-l[0]] }

// beginning returns a function that is irregular for its first n assignments; where it is not 0, it is 1 or a factor.
func beginning(seed, n, factor int, over ...int) api.Mtbdd {
	one, other := sample.Beginning(seed, n, over...), sample.Beginning(seed+100, n, over...)
	return sample.Joined(func(l []int) int { return l[0] * (1 + (factor-1)*l[1]) }, one, other)
}

// beside returns the diagram that is a where the variable 0 is true, and b elsewhere.
func beside(a, b api.Mtbdd) api.Mtbdd { return sample.Joined(chosen, sample.Chain(0), a, b) }

// constant returns the diagram with a value everywhere.
func constant(v int) api.Mtbdd { return api.Mtbdd{Vars: api.MaxBit, Leaves: []int{v}} }

// testLimit tests an operation whose result grows with n and, by as many nodes, with another diagram.
func testLimit(t *testing.T, name string, result func(n int, pad api.Mtbdd) (got api.Mtbdd, code api.Code, want api.Mtbdd)) {
	t.Helper()
	pad := func(nodes int) api.Mtbdd { return sample.Sized(nodes, sample.Range(24, 40, 1)...) }
	size := func(n int) int {
		_, _, want := result(n, pad(0))
		return len(want.Nodes)
	}
	n := sample.Last(api.MaxDiagram, size)
	left := api.MaxDiagram - size(n)
	got, code, want := result(n, pad(left))
	show(t, name, got, code, want, api.OK)
	if len(want.Nodes) != api.MaxDiagram {
		t.Errorf("%s: %d nodes", name, len(want.Nodes))
	}
	got, code, want = result(n, pad(left+1))
	show(t, name, got, code, api.Mtbdd{}, api.ErrLimit)
	if len(want.Nodes) != api.MaxDiagram+1 {
		t.Errorf("%s: %d nodes", name, len(want.Nodes))
	}
	got, code, want = result(n+50, pad(0))
	show(t, name, got, code, api.Mtbdd{}, api.ErrLimit)
	if len(want.Nodes) <= api.MaxDiagram+1 {
		t.Errorf("%s: %d nodes", name, len(want.Nodes))
	}
}

func TestP28_3ApplyLimit(t *testing.T) {
	testLimit(t, "Apply", func(n int, pad api.Mtbdd) (api.Mtbdd, api.Code, api.Mtbdd) {
		a, b := beside(beginning(1, n, 3, sample.Range(1, 21, 2)...), pad), beside(beginning(2, 1<<10, 5, sample.Range(2, 22, 2)...), constant(1))
		got, code := mtbdd.Apply(mtbdd.Times, a, b)
		return got, code, sample.Joined(product, a, b)
	})
}

func TestP28_3ChooseLimit(t *testing.T) {
	testLimit(t, "Choose", func(n int, pad api.Mtbdd) (api.Mtbdd, api.Code, api.Mtbdd) {
		c := beginning(1, 1<<8, 1, sample.Range(1, 24, 3)...)
		a, b := beside(beginning(2, n, 3, sample.Range(2, 24, 3)...), pad), beside(beginning(3, 1<<8, 5, sample.Range(3, 24, 3)...), pad)
		got, code := mtbdd.Choose(binary(c), a, b)
		return got, code, sample.Joined(chosen, c, a, b)
	})
}

func TestP28_4OutLimit(t *testing.T) {
	for _, out := range []struct {
		name string
		call func(api.Mtbdd, int) (api.Mtbdd, api.Code)
		op   func(l []int) int
	}{
		{"SumOut", mtbdd.SumOut, sum},
		{"MaxOut", mtbdd.MaxOut, slices.Max[[]int]},
	} {
		testLimit(t, out.name, func(n int, pad api.Mtbdd) (api.Mtbdd, api.Code, api.Mtbdd) {
			a, b := beside(beginning(1, n, 3, sample.Range(2, 22, 2)...), pad), beside(beginning(2, 1<<10, 5, sample.Range(3, 23, 2)...), pad)
			got, code := out.call(sample.Joined(chosen, sample.Chain(1), a, b), 1)
			return got, code, sample.Joined(out.op, a, b)
		})
	}
}

func TestP28_5PairLimit(t *testing.T) {
	testLimit(t, "Pair", func(n int, pad api.Mtbdd) (api.Mtbdd, api.Code, api.Mtbdd) {
		a, b := beside(beginning(1, n, 3, sample.Range(1, 21, 2)...), pad), beside(beginning(2, 1<<10, 5, sample.Range(2, 22, 2)...), constant(1))
		got, pairs, code := mtbdd.Pair(a, b)
		places := sample.Joined(func(l []int) int { return 6*l[0] + l[1] }, a, b)
		for i := range places.Leaves {
			if code == api.OK && pairs[i] != (api.Pair{First: places.Leaves[i] / 6, Second: places.Leaves[i] % 6}) {
				t.Errorf("the pairs are %v", pairs)
			}
			places.Leaves[i] = i
		}
		return got, code, places
	})
}

// sum returns the sum of the values of diagrams.
func sum(l []int) int { return l[0] + l[1] }

// counting returns the diagram of the number, times a factor, that bits of variables from one on make.
func counting(first, bits, factor int) api.Mtbdd {
	return sample.Reduced(api.MaxBit, sample.Range(first, first+bits, 1), sample.Pointwise(func(l []int) int { return factor * l[0] }, sample.Range(0, 1<<bits, 1)))
}

// The 4095 nodes of a tree with 4096 leaves have place for one more node, and none for another leaf.
func TestP28_3LeafLimit(t *testing.T) {
	a, old, other := counting(3, 12, 1), api.Mtbdd{Vars: api.MaxBit, Leaves: []int{7}}, api.Mtbdd{Vars: api.MaxBit, Leaves: []int{-7}}
	here := binary(sample.Chain(2))
	got, code := mtbdd.Choose(here, a, old)
	show(t, "Choose", got, code, sample.Joined(chosen, sample.Chain(2), a, old), api.OK)
	if len(got.Nodes) != api.MaxDiagram || len(got.Leaves) != api.MaxLeaf {
		t.Errorf("%d leaves and %d nodes", len(got.Leaves), len(got.Nodes))
	}
	got, code = mtbdd.Choose(here, a, other)
	show(t, "Choose", got, code, api.Mtbdd{}, api.ErrLimit)
	got, code = mtbdd.Choose(here, other, a)
	show(t, "Choose", got, code, api.Mtbdd{}, api.ErrLimit)

	// 64 times 64 leaves are as many as there may be; 65 times 64 are too many.
	high, low := counting(3, 6, 64), counting(9, 6, 1)
	got, code = mtbdd.Apply(mtbdd.Plus, high, low)
	show(t, "Apply", got, code, a, api.OK)
	got, pairs, code := mtbdd.Pair(high, low)
	show(t, "Pair", got, code, a, api.OK)
	if len(pairs) != api.MaxLeaf || pairs[130] != (api.Pair{First: 128, Second: 2}) {
		t.Errorf("%d pairs", len(pairs))
	}
	got, pairs, code = mtbdd.Pair(a, sample.Chain(2))
	show(t, "Pair", got, code, api.Mtbdd{}, api.ErrLimit)
	if pairs != nil {
		t.Errorf("%d pairs", len(pairs))
	}
	got, code = mtbdd.Apply(mtbdd.Minus, a, beside(constant(1), constant(0)))
	show(t, "Apply", got, code, api.Mtbdd{}, api.ErrLimit)
}

// A result that is too large may also have values out of range, which are told first, wherever they are.
func TestP28_3RangeBeforeLimit(t *testing.T) {
	a, b := beginning(1, 1<<10, 3, sample.Range(1, 21, 2)...), beginning(2, 1<<10, 5, sample.Range(2, 22, 2)...)
	point := sample.Chain(sample.Range(1, 40, 1)...) // true where the walk comes last
	for _, e := range []struct{ op, sign int }{{mtbdd.Plus, 1}, {mtbdd.Minus, -1}, {mtbdd.Times, -1}} {
		with := func(value int) func(l []int) int {
			return func(l []int) int { return l[0]*(1-l[1]) + value*l[1] }
		}
		x := sample.Joined(with(api.MaxValue), a, point)
		for value, want := range []api.Code{api.ErrLimit, api.ErrRange, api.ErrRange} {
			y := sample.Joined(func(l []int) int { return e.sign * with(value)(l) }, b, point)
			if e.op == mtbdd.Times && value == 1 {
				want = api.ErrLimit
			}
			got, code := mtbdd.Apply(e.op, x, y)
			show(t, "Apply", got, code, api.Mtbdd{}, want)
			if e.op == mtbdd.Plus && value < 2 {
				got, code = mtbdd.SumOut(beside(x, y), 0)
				show(t, "SumOut", got, code, api.Mtbdd{}, want)
			}
		}
	}
}

// Each of three diagrams keeps 9 bits in mind. There are more than a hundred million triples of references.
func TestP28_3ManyTriples(t *testing.T) {
	l, want := sample.Rivals(0, 9)
	got, code := mtbdd.Choose(binary(l[0]), l[1], l[2])
	show(t, "Choose", got, code, want, api.OK)
	change := func(a api.Mtbdd) api.Mtbdd {
		return sample.Joined(func(l []int) int { return l[0]*(9+l[1]) - 3 }, a, sample.Chain(39))
	}
	got, code = mtbdd.Choose(binary(l[0]), change(l[1]), change(l[2]))
	show(t, "Choose", got, code, change(want), api.OK)
}

// The diagram of the number of variables that are true has few nodes, but far too many paths to follow each of them.
func TestP28_7Number(t *testing.T) {
	ones := constant(0)
	for i := range api.MaxBit {
		x, code := mtbdd.Of(binary(sample.Chain(i)), 0, 1)
		if code != api.OK {
			t.Fatalf("Of: %d", code)
		}
		want := sample.Joined(sum, ones, x)
		ones, code = mtbdd.Apply(mtbdd.Plus, ones, x)
		show(t, "Apply", ones, code, want, api.OK)
	}
	tallies, code := mtbdd.Histogram(ones)
	binomial := 1
	for k, tally := range tallies {
		if tally != (api.Tally{Value: k, Count: binomial}) {
			t.Errorf("%d variables are true %d times, want %d", k, tally.Count, binomial)
		}
		binomial = binomial * (api.MaxBit - k) / (k + 1)
	}
	if code != api.OK || len(tallies) != api.MaxBit+1 {
		t.Errorf("%d values, %d", len(tallies), code)
	}
	got, code := mtbdd.Choose(binary(sample.Chain(39)), ones, ones)
	show(t, "Choose", got, code, ones, api.OK)
	got, code = mtbdd.Apply(mtbdd.Minus, ones, ones)
	show(t, "Apply", got, code, constant(0), api.OK)
	got, code = mtbdd.SumOut(ones, 20)
	rest, _ := mtbdd.Restrict(ones, 20, false)
	show(t, "SumOut", got, code, sample.Joined(func(l []int) int { return 2*l[0] + 1 }, rest), api.OK)
	got, pairs, code := mtbdd.Pair(ones, ones)
	show(t, "Pair", got, code, ones, api.OK)
	if len(pairs) != api.MaxBit+1 {
		t.Errorf("%d pairs", len(pairs))
	}
}
