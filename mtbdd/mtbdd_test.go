package mtbdd_test

import (
	"math"
	"math/rand"
	"slices"
	"testing"

	"keyhole/api"
	"keyhole/bdd"
	"keyhole/mtbdd"
	"keyhole/sample"
)

var (
	invalid = api.Mtbdd{Vars: 2, Leaves: []int{0, 1}, Nodes: []api.Fork{{Var: 0, Low: 0, High: 1}, {Var: 1, Low: 0, High: 1}}, Root: 3}
	false2  = api.Bdd{Vars: 2}
	badBdd  = api.Bdd{Vars: 2, Root: 2}
	two     = api.Mtbdd{Vars: 2, Leaves: []int{5}}
	three   = api.Mtbdd{Vars: 3, Leaves: []int{5}}
)

// around are numbers about the bounds of values, and far beyond.
var around = []int{math.MinInt, -api.MaxValue - 1, -api.MaxValue, -1, 0, api.MaxValue, api.MaxValue + 1, math.MaxInt}

func TestP28_2Constant(t *testing.T) {
	for _, vars := range []int{math.MinInt, -1, 0, 1, 39, api.MaxBit, api.MaxBit + 1, math.MaxInt} {
		for _, v := range around {
			a, code := mtbdd.Constant(vars, v)
			if vars < 0 || vars > api.MaxBit || !isValue(v) {
				show(t, "Constant", a, code, api.Mtbdd{}, api.ErrRange)
			} else {
				show(t, "Constant", a, code, api.Mtbdd{Vars: vars, Leaves: []int{v}}, api.OK)
			}
		}
	}
}

func TestP28_2Of(t *testing.T) {
	for _, no := range around {
		for _, yes := range around {
			for _, table := range [][]int{{0, 1}, {1, 0}, {1, 1}, {0, 0}} {
				a, code := mtbdd.Of(truth(sample.Small(1), table), no, yes)
				if !isValue(no) || !isValue(yes) {
					show(t, "Of", a, code, api.Mtbdd{}, api.ErrRange)
					continue
				}
				values := sample.Pointwise(func(l []int) int { return []int{no, yes}[l[0]] }, table)
				test(t, "Of", a, code, sample.Small(1), values)
			}
		}
	}
	each(3, func(r *rand.Rand, w world) {
		x, values := truths(r, w), []int{r.Intn(5) - 2, r.Intn(5) - 2}
		a, code := mtbdd.Of(truth(w, x), values[0], values[1])
		test(t, "Of", a, code, w, sample.Pointwise(func(l []int) int { return values[l[0]] }, x))
	})
	a, code := mtbdd.Of(badBdd, math.MaxInt, 0)
	show(t, "Of", a, code, api.Mtbdd{}, api.ErrArgument)
	a, code = mtbdd.Of(api.Bdd{Vars: api.MaxBit + 1}, 0, 1)
	show(t, "Of", a, code, api.Mtbdd{}, api.ErrArgument)
}

func TestP28_2Tables(t *testing.T) {
	table := func(w world, values []int) {
		a, code := mtbdd.FromTable(w.Vars, values)
		test(t, "FromTable", a, code, w, values)
		if back, code := mtbdd.Table(a); !slices.Equal(back, values) || code != api.OK {
			t.Fatalf("Table = %v, %d; want %v", back, code, values)
		}
	}
	for vars := range 3 {
		functions(sample.Small(vars), []int{-api.MaxValue, 0, 1, api.MaxValue}, func(values []int) { table(sample.Small(vars), values) })
	}
	r := rand.New(rand.NewSource(1))
	for range 300 {
		w := sample.Small(r.Intn(api.MaxTruth + 1))
		table(w, function(r, w))
	}
	table(sample.Small(api.MaxTruth), sample.Range(-2000, 2096, 1))
	table(sample.Small(api.MaxTruth), sample.Pointwise(func(l []int) int { return -l[0] }, sample.Range(0, 4096, 1)))
}

func TestP28_2TableErrors(t *testing.T) {
	for _, e := range []struct {
		vars, size int
		want       api.Code
	}{
		{-1, 1, api.ErrRange}, {api.MaxTruth + 1, 1 << (api.MaxTruth + 1), api.ErrRange}, {math.MinInt, 0, api.ErrRange}, {64, 0, api.ErrRange},
		{0, 0, api.ErrMismatch}, {0, 2, api.ErrMismatch}, {3, 7, api.ErrMismatch}, {3, 9, api.ErrMismatch}, {api.MaxTruth, 0, api.ErrMismatch},
	} {
		a, code := mtbdd.FromTable(e.vars, make([]int, e.size))
		show(t, "FromTable", a, code, api.Mtbdd{}, e.want)
	}
	for _, x := range around {
		for i := range 4 {
			values := make([]int, 4)
			values[i] = x
			a, code := mtbdd.FromTable(2, values)
			test(t, "FromTable", a, code, sample.Small(2), values)
		}
		a, code := mtbdd.FromTable(2, []int{x})
		show(t, "FromTable", a, code, api.Mtbdd{}, api.ErrMismatch)
	}
	large := api.Mtbdd{Vars: api.MaxTruth + 1, Leaves: []int{1}}
	for _, e := range []struct {
		a    api.Mtbdd
		want api.Code
	}{{invalid, api.ErrArgument}, {large, api.ErrLimit}, {api.Mtbdd{Vars: -1}, api.ErrArgument}, {api.Mtbdd{Vars: api.MaxTruth + 1}, api.ErrArgument}} {
		if values, code := mtbdd.Table(e.a); values != nil || code != e.want {
			t.Errorf("Table = %v, %d; want the code %d", values, code, e.want)
		}
	}
}

func TestP28_2Eval(t *testing.T) {
	each(4, func(r *rand.Rand, w world) {
		x := function(r, w)
		in := make([]bool, w.Vars)
		for i := range in {
			in[i] = r.Intn(2) == 1
		}
		if v, code := mtbdd.Eval(draw(w, x), in); v != x[sample.Rank(w.At(in))] || code != api.OK {
			t.Fatalf("Eval(%v, %v) = %d, %d", draw(w, x), in, v, code)
		}
	})
	for _, e := range []struct {
		a    api.Mtbdd
		in   int
		want api.Code
	}{{invalid, 0, api.ErrArgument}, {two, 0, api.ErrMismatch}, {two, 1, api.ErrMismatch}, {two, 3, api.ErrMismatch}} {
		if v, code := mtbdd.Eval(e.a, make([]bool, e.in)); v != 0 || code != e.want {
			t.Errorf("Eval = %d, %d; want %d", v, code, e.want)
		}
	}
}

// testApply tests all operations of two functions, and counts the codes.
func testApply(t *testing.T, w world, x, y []int, counts map[api.Code]int) {
	t.Helper()
	for op := range mtbdd.Operations {
		a, failure := mtbdd.Apply(op, draw(w, x), draw(w, y))
		table := sample.Pointwise(func(l []int) int { return exact(op, l[0], l[1]) }, x, y)
		test(t, "Apply", a, failure, w, table)
		counts[failure]++
	}
}

func TestP28_3Apply(t *testing.T) {
	if mtbdd.Operations != 9 || mtbdd.Plus != 0 || mtbdd.Over != 3 || mtbdd.Equal != 8 {
		t.Error("the numbers of the operations are others")
	}
	counts := map[api.Code]int{}
	numbers := []int{-api.MaxValue, -1 << 20, -7, -3, -2, -1, 0, 1, 2, 3, 7, 1 << 20, 1<<20 + 1, 1 << 39, 1<<39 + 1, api.MaxValue - 1, api.MaxValue}
	for _, x := range numbers {
		for _, y := range numbers {
			testApply(t, sample.Small(0), []int{x}, []int{y}, counts)
		}
	}
	functions(sample.Small(1), []int{-api.MaxValue, -2, 0, 3}, func(x []int) {
		functions(sample.Small(1), []int{api.MaxValue, -3, 0, 2}, func(y []int) { testApply(t, sample.Small(1), x, y, counts) })
	})
	each(5, func(r *rand.Rand, w world) { testApply(t, w, function(r, w), function(r, w), counts) })
	if counts[api.OK] < 10000 || counts[api.ErrRange] < 1000 || len(counts) != 2 {
		t.Errorf("codes: %v", counts)
	}
}

// Values out of range matter only if they occur for some assignment.
func TestP28_3ApplyRange(t *testing.T) {
	w := sample.Small(2)
	most, low := api.MaxValue, -api.MaxValue
	for _, e := range []struct {
		op   int
		x, y []int
	}{
		{mtbdd.Plus, []int{most, 0, 0, 0}, []int{0, most, most, most}},
		{mtbdd.Plus, []int{most, 0, 0, 0}, []int{1, most, most, most}},
		{mtbdd.Plus, []int{low, 0, 0, 0}, []int{0, low, low, low}},
		{mtbdd.Plus, []int{0, 0, 0, low}, []int{low, low, low, -1}},
		{mtbdd.Minus, []int{most, 0, 0, 0}, []int{0, low, low, low}},
		{mtbdd.Minus, []int{low, 0, 0, 5}, []int{0, most, most, most}},
		{mtbdd.Minus, []int{0, 0, 0, low}, []int{most, 0, 0, 1}},
		{mtbdd.Times, []int{most, 1, -1, 0}, []int{1, most, most, most}},
		{mtbdd.Times, []int{most, 1, -1, 0}, []int{1, low, low, low}},
		{mtbdd.Times, []int{most, 1, 2, 0}, []int{1, low, low, low}},
		{mtbdd.Times, []int{1 << 20, 1 << 20, 0, 1}, []int{-1 << 20, 0, 1 << 21, 1 << 21}},
		{mtbdd.Times, []int{0, 1 << 20, 0, 1}, []int{0, -1<<20 - 1, 0, 1 << 21}},
	} {
		a, failure := mtbdd.Apply(e.op, draw(w, e.x), draw(w, e.y))
		test(t, "Apply", a, failure, w, sample.Pointwise(func(l []int) int { return exact(e.op, l[0], l[1]) }, e.x, e.y))
	}
}

func TestP28_3ChooseClampLevel(t *testing.T) {
	each(6, func(r *rand.Rand, w world) {
		c, x, y := truths(r, w), function(r, w), function(r, w)
		a, failure := mtbdd.Choose(truth(w, c), draw(w, x), draw(w, y))
		test(t, "Choose", a, failure, w, sample.Pointwise(func(l []int) int { return l[2-l[0]] }, c, x, y))
		a, failure = mtbdd.Choose(truth(w, c), draw(w, x), draw(w, x))
		test(t, "Choose of the same", a, failure, w, x)
		low, high := x[r.Intn(len(x))], y[r.Intn(len(y))]
		a, failure = mtbdd.Clamp(draw(w, x), min(low, high), max(low, high))
		test(t, "Clamp", a, failure, w, sample.Pointwise(func(l []int) int { return max(min(low, high), min(l[0], max(low, high))) }, x))
		for _, v := range []int{low, high, r.Intn(5) - 2, math.MinInt, math.MaxInt} {
			b, failure := mtbdd.Level(draw(w, x), v)
			want := truth(w, sample.Pointwise(func(l []int) int { return number(l[0] == v) }, x))
			if failure != api.OK || b.Vars != want.Vars || b.Root != want.Root || !slices.Equal(b.Nodes, want.Nodes) {
				t.Fatalf("Level(%v, %d) = %v, %d; want %v", draw(w, x), v, b, failure, want)
			}
		}
	})
	for vars := range 2 {
		w := sample.Small(vars)
		functions(w, []int{0, 1}, func(c []int) {
			functions(w, []int{-1, 0, 4}, func(x []int) {
				functions(w, []int{0, 3, 4}, func(y []int) {
					a, failure := mtbdd.Choose(truth(w, c), draw(w, x), draw(w, y))
					test(t, "Choose", a, failure, w, sample.Pointwise(func(l []int) int { return l[2-l[0]] }, c, x, y))
				})
			})
		})
	}
}

func TestP28_3Errors(t *testing.T) {
	for _, e := range []struct {
		op   int
		a, b api.Mtbdd
		want api.Code
	}{
		{9, invalid, three, api.ErrArgument}, {9, three, invalid, api.ErrArgument}, {9, two, three, api.ErrMismatch}, {9, two, two, api.ErrRange},
		{-1, two, two, api.ErrRange}, {math.MinInt, two, two, api.ErrRange}, {math.MaxInt, two, two, api.ErrRange}, {0, api.Mtbdd{}, two, api.ErrArgument},
	} {
		a, code := mtbdd.Apply(e.op, e.a, e.b)
		show(t, "Apply", a, code, api.Mtbdd{}, e.want)
	}
	for _, e := range []struct {
		c    api.Bdd
		a, b api.Mtbdd
		want api.Code
	}{
		{badBdd, two, three, api.ErrArgument}, {false2, invalid, three, api.ErrArgument}, {false2, three, invalid, api.ErrArgument}, {api.Bdd{Vars: 3}, invalid, two, api.ErrArgument},
		{false2, two, three, api.ErrMismatch}, {false2, three, two, api.ErrMismatch}, {api.Bdd{Vars: 3}, two, two, api.ErrMismatch},
	} {
		a, code := mtbdd.Choose(e.c, e.a, e.b)
		show(t, "Choose", a, code, api.Mtbdd{}, e.want)
	}
	for _, low := range around {
		for _, high := range around {
			a, code := mtbdd.Clamp(two, low, high)
			if low > high || !isValue(low) || !isValue(high) {
				show(t, "Clamp", a, code, api.Mtbdd{}, api.ErrRange)
			} else {
				show(t, "Clamp", a, code, api.Mtbdd{Vars: 2, Leaves: []int{min(max(5, low), high)}}, api.OK)
			}
			a, code = mtbdd.Clamp(invalid, low, high)
			show(t, "Clamp", a, code, api.Mtbdd{}, api.ErrArgument)
		}
	}
	if b, code := mtbdd.Level(invalid, 0); b.Vars != 0 || b.Nodes != nil || b.Root != 0 || code != api.ErrArgument {
		t.Errorf("Level = %v, %d", b, code)
	}
}

func TestP28_4Restrictions(t *testing.T) {
	counts := map[api.Code]int{}
	reduce := func(w world, x []int, i int) {
		no, yes := sample.Fixed(w, x, i, false), sample.Fixed(w, x, i, true)
		a, failure := mtbdd.Restrict(draw(w, x), i, false)
		test(t, "Restrict to false", a, failure, w, no)
		a, failure = mtbdd.Restrict(draw(w, x), i, true)
		test(t, "Restrict to true", a, failure, w, yes)
		a, failure = mtbdd.MaxOut(draw(w, x), i)
		test(t, "MaxOut", a, failure, w, sample.Pointwise(slices.Max[[]int], no, yes))
		a, failure = mtbdd.SumOut(draw(w, x), i)
		test(t, "SumOut", a, failure, w, sample.Pointwise(func(l []int) int { return exact(mtbdd.Plus, l[0], l[1]) }, no, yes))
		counts[failure]++
	}
	for vars := range 3 {
		functions(sample.Small(vars), []int{-api.MaxValue, -1, 0, 1, 3}, func(x []int) {
			for i := range vars {
				reduce(sample.Small(vars), x, i)
			}
		})
	}
	each(7, func(r *rand.Rand, w world) {
		if w.Vars > 0 {
			reduce(w, function(r, w), w.Variable(r.Intn))
		}
	})
	if counts[api.OK] < 1000 || counts[api.ErrRange] < 200 || len(counts) != 2 {
		t.Errorf("codes: %v", counts)
	}
}

func TestP28_4Errors(t *testing.T) {
	for _, e := range []struct {
		a    api.Mtbdd
		i    int
		want api.Code
	}{{invalid, 9, api.ErrArgument}, {two, -1, api.ErrRange}, {two, 2, api.ErrRange}, {two, math.MaxInt, api.ErrRange}, {api.Mtbdd{Leaves: []int{1}}, 0, api.ErrRange}} {
		a, code := mtbdd.Restrict(e.a, e.i, true)
		show(t, "Restrict", a, code, api.Mtbdd{}, e.want)
		a, code = mtbdd.SumOut(e.a, e.i)
		show(t, "SumOut", a, code, api.Mtbdd{}, e.want)
		a, code = mtbdd.MaxOut(e.a, e.i)
		show(t, "MaxOut", a, code, api.Mtbdd{}, e.want)
	}
}

// tally returns the histogram of a table, each of whose values stands for so many assignments.
func tally(table []int, times int) []api.Tally {
	var tallies []api.Tally
	for _, x := range slices.Compact(slices.Sorted(slices.Values(table))) {
		count := 0
		for _, y := range table {
			count += number(x == y)
		}
		tallies = append(tallies, api.Tally{Value: x, Count: count * times})
	}
	return tallies
}

func TestP28_5Histogram(t *testing.T) {
	each(8, func(r *rand.Rand, w world) {
		x := function(r, w)
		want := tally(x, 1<<(w.Vars-len(w.Over)))
		if tallies, code := mtbdd.Histogram(draw(w, x)); !slices.Equal(tallies, want) || code != api.OK {
			t.Fatalf("Histogram(%v) = %v, %d; want %v", draw(w, x), tallies, code, want)
		}
	})
	if tallies, code := mtbdd.Histogram(api.Mtbdd{Vars: api.MaxBit, Leaves: []int{-3}}); !slices.Equal(tallies, []api.Tally{{Value: -3, Count: 1 << api.MaxBit}}) || code != api.OK {
		t.Errorf("Histogram = %v, %d", tallies, code)
	}
	if tallies, code := mtbdd.Histogram(invalid); tallies != nil || code != api.ErrArgument {
		t.Errorf("Histogram = %v, %d", tallies, code)
	}
}

func comparePairs(a, b api.Pair) int {
	if a.First != b.First {
		return a.First - b.First
	}
	return a.Second - b.Second
}

func testPair(t *testing.T, w world, x, y []int) {
	t.Helper()
	all := sample.Pointwise(func(l []int) api.Pair { return api.Pair{First: l[0], Second: l[1]} }, x, y)
	want := slices.Compact(slices.SortedFunc(slices.Values(all), comparePairs))
	a, pairs, failure := mtbdd.Pair(draw(w, x), draw(w, y))
	if !slices.Equal(pairs, want) {
		t.Fatalf("Pair(%v, %v) = %v", x, y, pairs)
	}
	test(t, "Pair", a, failure, w, sample.Pointwise(func(l []api.Pair) int { return slices.Index(want, l[0]) }, all))
}

func TestP28_5Pair(t *testing.T) {
	for vars := range 2 {
		functions(sample.Small(vars), []int{-2, 0, 1, api.MaxValue}, func(x []int) {
			functions(sample.Small(vars), []int{-1, 0, 1, -api.MaxValue}, func(y []int) { testPair(t, sample.Small(vars), x, y) })
		})
	}
	each(9, func(r *rand.Rand, w world) {
		x := function(r, w)
		testPair(t, w, x, function(r, w))
		testPair(t, w, x, truths(r, w))
		testPair(t, w, truths(r, w), x)
	})
	for _, e := range []struct {
		a, b api.Mtbdd
		want api.Code
	}{{invalid, three, api.ErrArgument}, {three, invalid, api.ErrArgument}, {two, three, api.ErrMismatch}} {
		a, pairs, code := mtbdd.Pair(e.a, e.b)
		show(t, "Pair", a, code, api.Mtbdd{}, e.want)
		if pairs != nil {
			t.Errorf("Pair = %v", pairs)
		}
	}
}

func TestP28Examples(t *testing.T) {
	a, code := mtbdd.FromTable(2, []int{5, 7, 5, 5})
	show(t, "the example 1", a, code, api.Mtbdd{Vars: 2, Leaves: []int{5, 7}, Nodes: []api.Fork{{Var: 1, Low: 0, High: 1}, {Var: 0, Low: 2, High: 0}}, Root: 3}, api.OK)
	if tallies, code := mtbdd.Histogram(a); !slices.Equal(tallies, []api.Tally{{Value: 5, Count: 3}, {Value: 7, Count: 1}}) || code != api.OK {
		t.Errorf("Histogram = %v, %d", tallies, code)
	}
	a, code = mtbdd.SumOut(a, 1)
	show(t, "the example 2", a, code, api.Mtbdd{Vars: 2, Leaves: []int{10, 12}, Nodes: []api.Fork{{Var: 0, Low: 1, High: 0}}, Root: 2}, api.OK)
	a, code = mtbdd.Constant(3, -4)
	show(t, "the example 3", a, code, api.Mtbdd{Vars: 3, Leaves: []int{-4}}, api.OK)
	x, _ := mtbdd.FromTable(2, []int{0, 0, 1, 1})
	y, _ := mtbdd.FromTable(2, []int{0, 1, 0, 1})
	a, pairs, code := mtbdd.Pair(x, y)
	want, _ := mtbdd.FromTable(2, []int{0, 1, 2, 3})
	show(t, "the example 4", a, code, want, api.OK)
	if !slices.Equal(pairs, []api.Pair{{First: 0, Second: 0}, {First: 0, Second: 1}, {First: 1, Second: 0}, {First: 1, Second: 1}}) {
		t.Errorf("Pair = %v", pairs)
	}
}

func TestP28_7Levels(t *testing.T) {
	each(10, func(r *rand.Rand, w world) {
		a := draw(w, function(r, w))
		tallies, _ := mtbdd.Histogram(a)
		sum, _ := mtbdd.Constant(w.Vars, 0)
		total := 0
		for _, tally := range tallies {
			level, _ := mtbdd.Level(a, tally.Value)
			if n, code := bdd.Count(level); n != tally.Count || code != api.OK {
				t.Fatalf("%v has the value %d %d times, and Level is true %d times", a, tally.Value, tally.Count, n)
			}
			of, code := mtbdd.Of(level, 0, tally.Value)
			if code != api.OK {
				t.Fatalf("Of(%v, %d): %d", level, tally.Value, code)
			}
			sum, _ = mtbdd.Apply(mtbdd.Plus, sum, of)
			total += tally.Count
		}
		show(t, "the sum of the levels", sum, api.OK, a, api.OK)
		if total != 1<<w.Vars {
			t.Fatalf("the histogram of %v has %d assignments", a, total)
		}
	})
}

func TestP28_7Sums(t *testing.T) {
	summed := 0
	each(11, func(r *rand.Rand, w world) {
		x := function(r, w)
		a, code := draw(w, x), api.OK
		for _, i := range r.Perm(w.Vars) {
			if a, code = mtbdd.SumOut(a, i); code != api.OK {
				return // a value is out of range
			}
		}
		summed++
		sum := 0
		for _, v := range x {
			sum += v << (w.Vars - len(w.Over))
		}
		show(t, "the sum of all values", a, code, api.Mtbdd{Vars: w.Vars, Leaves: []int{sum}}, api.OK)
	})
	if summed < 500 {
		t.Errorf("only %d sums", summed)
	}
}

func TestP28_7Pairs(t *testing.T) {
	each(12, func(r *rand.Rand, w world) {
		x, y := function(r, w), function(r, w)
		a, pairs, _ := mtbdd.Pair(draw(w, x), draw(w, y))
		first, second := a, a
		first.Leaves, second.Leaves = nil, nil
		for _, pair := range pairs {
			first.Leaves, second.Leaves = append(first.Leaves, pair.First), append(second.Leaves, pair.Second)
		}
		show(t, "the first part", sample.Joined(func(l []int) int { return l[0] }, first), api.OK, draw(w, x), api.OK)
		show(t, "the second part", sample.Joined(func(l []int) int { return l[0] }, second), api.OK, draw(w, y), api.OK)
	})
}

// Arguments are neither changed nor kept, and results share no memory with them.
func TestMemory(t *testing.T) {
	w := sample.Small(3)
	x, y, c := []int{3, -1, 3, 0, 0, -1, 4, 3}, []int{2, 2, 1, 5, -2, 2, 1, 1}, []int{0, 1, 1, 0, 1, 0, 0, 1}
	a, b, d := draw(w, x), draw(w, y), truth(w, c)
	results := func() []api.Mtbdd {
		var all []api.Mtbdd
		add := func(a api.Mtbdd, code api.Code) {
			if code != api.OK {
				t.Errorf("code %d", code)
			}
			all = append(all, a)
		}
		add(mtbdd.FromTable(3, x))
		add(mtbdd.Of(d, 0, 1))
		for op := range mtbdd.Operations {
			add(mtbdd.Apply(op, a, b))
		}
		add(mtbdd.Choose(d, a, b))
		add(mtbdd.Choose(d, a, a))
		add(mtbdd.Clamp(a, -9, 9))
		add(mtbdd.Restrict(a, 1, true))
		add(mtbdd.SumOut(a, 1))
		add(mtbdd.MaxOut(a, 1))
		paired, _, code := mtbdd.Pair(a, b)
		add(paired, code)
		level, code := mtbdd.Level(a, 3)
		add(api.Mtbdd{Nodes: level.Nodes}, code)
		mtbdd.Histogram(a)
		mtbdd.Table(a)
		return all
	}
	first := results()
	for _, result := range results() {
		clear(result.Leaves)
		clear(result.Nodes)
	}
	if !equal(a, draw(w, x)) || !equal(b, draw(w, y)) || !slices.Equal(d.Nodes, truth(w, c).Nodes) || !slices.Equal(x, []int{3, -1, 3, 0, 0, -1, 4, 3}) {
		t.Error("an argument was changed")
	}
	for i, result := range results() {
		if !equal(result, first[i]) {
			t.Errorf("the result %d was changed", i)
		}
	}
}
