package bdd_test

import (
	"math"
	"math/rand"
	"slices"
	"testing"

	"keyhole/api"
	"keyhole/bdd"
	"keyhole/sample"
)

var invalid = api.Bdd{Vars: 2, Nodes: []api.Fork{{Var: 0, Low: 0, High: 1}, {Var: 1, Low: 0, High: 1}}, Root: 3}

func TestP27_2ConstAndVariable(t *testing.T) {
	for vars := -2; vars <= api.MaxBit+2; vars++ {
		isVars := vars >= 0 && vars <= api.MaxBit
		for _, v := range []bool{false, true} {
			b, code := bdd.Const(vars, v)
			if isVars {
				show(t, "Const", b, code, api.Bdd{Vars: vars, Root: number(v)}, api.OK)
			} else {
				show(t, "Const", b, code, api.Bdd{}, api.ErrRange)
			}
		}
		for i := -2; i <= api.MaxBit+2; i++ {
			b, code := bdd.Variable(vars, i)
			if isVars && i >= 0 && i < vars {
				show(t, "Variable", b, code, api.Bdd{Vars: vars, Nodes: []api.Fork{{Var: i, Low: 0, High: 1}}, Root: 2}, api.OK)
			} else {
				show(t, "Variable", b, code, api.Bdd{}, api.ErrRange)
			}
		}
	}
	b, code := bdd.Variable(math.MaxInt, math.MaxInt-1)
	show(t, "Variable", b, code, api.Bdd{}, api.ErrRange)
}

func TestP27_2Tables(t *testing.T) {
	test := func(w world, table []bool) {
		b, code := bdd.FromTable(w.Vars, table)
		show(t, "FromTable", b, code, draw(w, table), api.OK)
		if back, code := bdd.Table(b); !slices.Equal(back, table) || code != api.OK {
			t.Fatalf("Table = %v, %d; want %v", back, code, table)
		}
	}
	for vars := range 4 {
		functions(sample.Small(vars), func(table []bool) { test(sample.Small(vars), table) })
	}
	r := rand.New(rand.NewSource(1))
	for range 500 {
		w := sample.Small(r.Intn(api.MaxTruth + 1))
		test(w, function(r, w))
	}
}

func TestP27_2TableErrors(t *testing.T) {
	wrong := []struct {
		vars, size int
		want       api.Code
	}{
		{-1, 1, api.ErrRange}, {api.MaxTruth + 1, 1 << (api.MaxTruth + 1), api.ErrRange}, {math.MinInt, 0, api.ErrRange}, {64, 0, api.ErrRange},
		{0, 0, api.ErrMismatch}, {0, 2, api.ErrMismatch}, {3, 7, api.ErrMismatch}, {3, 9, api.ErrMismatch}, {api.MaxTruth, 0, api.ErrMismatch},
	}
	for _, e := range wrong {
		b, code := bdd.FromTable(e.vars, make([]bool, e.size))
		show(t, "FromTable", b, code, api.Bdd{}, e.want)
	}
	large, _ := bdd.Variable(api.MaxTruth+1, 0)
	for _, e := range []struct {
		b    api.Bdd
		want api.Code
	}{{invalid, api.ErrArgument}, {large, api.ErrLimit}, {api.Bdd{Vars: -1}, api.ErrArgument}, {api.Bdd{Vars: api.MaxTruth + 1, Root: 9}, api.ErrArgument}} {
		if table, code := bdd.Table(e.b); table != nil || code != e.want {
			t.Errorf("Table = %v, %d; want the code %d", table, code, e.want)
		}
	}
}

func TestP27_3AllSmall(t *testing.T) {
	for vars := range 3 {
		w := sample.Small(vars)
		functions(w, func(x []bool) {
			b, code := bdd.Not(draw(w, x))
			show(t, "Not", b, code, draw(w, sample.Pointwise(not, x)), api.OK)
			functions(w, func(y []bool) {
				testApply(t, w, x, y)
				functions(w, func(z []bool) {
					b, code := bdd.Ite(draw(w, x), draw(w, y), draw(w, z))
					show(t, "Ite", b, code, draw(w, sample.Pointwise(ite, x, y, z)), api.OK)
				})
			})
		})
	}
}

func testApply(t *testing.T, w world, x, y []bool) {
	t.Helper()
	for op := range 16 {
		b, code := bdd.Apply(op, draw(w, x), draw(w, y))
		value := func(l []bool) bool { return op&(1<<(2*number(l[0])+number(l[1]))) != 0 }
		show(t, "Apply", b, code, draw(w, sample.Pointwise(value, x, y)), api.OK)
	}
}

func TestP27_3Random(t *testing.T) {
	each(4, func(r *rand.Rand, w world) {
		x, y, z := function(r, w), function(r, w), function(r, w)
		b, code := bdd.Not(draw(w, x))
		show(t, "Not", b, code, draw(w, sample.Pointwise(not, x)), api.OK)
		testApply(t, w, x, y)
		b, code = bdd.Ite(draw(w, x), draw(w, y), draw(w, z))
		show(t, "Ite", b, code, draw(w, sample.Pointwise(ite, x, y, z)), api.OK)
	})
}

func TestP27_3Examples(t *testing.T) {
	x, _ := bdd.Variable(2, 0)
	y, _ := bdd.Variable(2, 1)
	b, code := bdd.Apply(8, x, y)
	show(t, "the conjunction", b, code, api.Bdd{Vars: 2, Nodes: []api.Fork{{Var: 1, Low: 0, High: 1}, {Var: 0, Low: 0, High: 2}}, Root: 3}, api.OK)
	b, code = bdd.Apply(6, x, y)
	show(t, "the exclusive or", b, code, api.Bdd{Vars: 2, Nodes: []api.Fork{{Var: 1, Low: 0, High: 1}, {Var: 1, Low: 1, High: 0}, {Var: 0, Low: 2, High: 3}}, Root: 4}, api.OK)
	b, code = bdd.Exists(b, []int{1})
	show(t, "Exists", b, code, api.Bdd{Vars: 2, Root: 1}, api.OK)
}

func TestP27_3Errors(t *testing.T) {
	two, three := api.Bdd{Vars: 2}, api.Bdd{Vars: 3, Root: 1}
	b, code := bdd.Not(invalid)
	show(t, "Not", b, code, api.Bdd{}, api.ErrArgument)
	for _, e := range []struct {
		op   int
		a, b api.Bdd
		want api.Code
	}{
		{16, invalid, three, api.ErrArgument}, {16, three, invalid, api.ErrArgument}, {16, two, three, api.ErrMismatch}, {16, two, two, api.ErrRange},
		{-1, two, two, api.ErrRange}, {math.MinInt, two, two, api.ErrRange}, {math.MaxInt, two, two, api.ErrRange},
		{0, api.Bdd{Vars: api.MaxBit + 1}, two, api.ErrArgument}, {0, two, api.Bdd{Vars: 2, Nodes: make([]api.Fork, api.MaxDiagram+1)}, api.ErrArgument},
	} {
		b, code := bdd.Apply(e.op, e.a, e.b)
		show(t, "Apply", b, code, api.Bdd{}, e.want)
	}
	for _, e := range []struct {
		c, a, b api.Bdd
		want    api.Code
	}{
		{invalid, two, three, api.ErrArgument}, {two, invalid, three, api.ErrArgument}, {two, three, invalid, api.ErrArgument},
		{two, two, three, api.ErrMismatch}, {two, three, two, api.ErrMismatch}, {three, two, two, api.ErrMismatch},
	} {
		b, code := bdd.Ite(e.c, e.a, e.b)
		show(t, "Ite", b, code, api.Bdd{}, e.want)
	}
}

// quantified returns the table that the variables of l leave.
func quantified(w world, op func(l []bool) bool, table []bool, l []int) []bool {
	for _, i := range l {
		table = sample.Pointwise(op, sample.Fixed(w, table, i, false), sample.Fixed(w, table, i, true))
	}
	return table
}

func testReplace(t *testing.T, w world, x, y []bool, i int) {
	t.Helper()
	no, yes := sample.Fixed(w, x, i, false), sample.Fixed(w, x, i, true)
	b, code := bdd.Restrict(draw(w, x), i, false)
	show(t, "Restrict to false", b, code, draw(w, no), api.OK)
	b, code = bdd.Restrict(draw(w, x), i, true)
	show(t, "Restrict to true", b, code, draw(w, yes), api.OK)
	b, code = bdd.Compose(draw(w, x), i, draw(w, y))
	show(t, "Compose", b, code, draw(w, sample.Pointwise(ite, y, yes, no)), api.OK)
}

func testQuantify(t *testing.T, w world, x []bool, l []int) {
	t.Helper()
	b, code := bdd.Exists(draw(w, x), l)
	show(t, "Exists", b, code, draw(w, quantified(w, or, x, l)), api.OK)
	b, code = bdd.Forall(draw(w, x), l)
	show(t, "Forall", b, code, draw(w, quantified(w, and, x, l)), api.OK)
}

func TestP27_4AllSmall(t *testing.T) {
	lists := [][]int{nil, {}, {0}, {1}, {0, 1}, {1, 0}, {1, 1, 0, 1}, {2}, {2, 0}, {0, 2, 1}}
	for vars := 1; vars <= 3; vars++ {
		w := sample.Small(vars)
		functions(w, func(x []bool) {
			for _, l := range lists {
				if len(l) == 0 || slices.Max(l) < vars {
					testQuantify(t, w, x, l)
				}
			}
			if vars < 3 {
				functions(w, func(y []bool) {
					for i := range vars {
						testReplace(t, w, x, y, i)
					}
				})
			}
		})
	}
}

func TestP27_4Random(t *testing.T) {
	each(5, func(r *rand.Rand, w world) {
		x, y := function(r, w), function(r, w)
		if w.Vars > 0 {
			testReplace(t, w, x, y, w.Variable(r.Intn))
		}
		testQuantify(t, w, x, w.Variables(r.Intn, 6))
	})
}

func TestP27_4Errors(t *testing.T) {
	two, three := api.Bdd{Vars: 2}, api.Bdd{Vars: 3, Root: 1}
	for _, e := range []struct {
		b    api.Bdd
		i    int
		want api.Code
	}{{invalid, 9, api.ErrArgument}, {two, -1, api.ErrRange}, {two, 2, api.ErrRange}, {two, math.MaxInt, api.ErrRange}, {api.Bdd{}, 0, api.ErrRange}} {
		b, code := bdd.Restrict(e.b, e.i, true)
		show(t, "Restrict", b, code, api.Bdd{}, e.want)
		b, code = bdd.Exists(e.b, []int{e.i})
		show(t, "Exists", b, code, api.Bdd{}, e.want)
		b, code = bdd.Forall(e.b, []int{e.i})
		show(t, "Forall", b, code, api.Bdd{}, e.want)
		b, code = bdd.Compose(e.b, e.i, e.b)
		show(t, "Compose", b, code, api.Bdd{}, e.want)
	}
	b, code := bdd.Exists(two, []int{0, 1, 1, 0, 2})
	show(t, "Exists", b, code, api.Bdd{}, api.ErrRange)
	b, code = bdd.Forall(invalid, nil)
	show(t, "Forall", b, code, api.Bdd{}, api.ErrArgument)
	for _, e := range []struct {
		b, g api.Bdd
		i    int
		want api.Code
	}{{invalid, three, 5, api.ErrArgument}, {three, invalid, 5, api.ErrArgument}, {two, three, 5, api.ErrMismatch}, {three, two, 2, api.ErrMismatch}, {two, two, 2, api.ErrRange}} {
		b, code := bdd.Compose(e.b, e.i, e.g)
		show(t, "Compose", b, code, api.Bdd{}, e.want)
	}
}

// A list may be much longer than there are variables.
func TestP27_4LongList(t *testing.T) {
	l := make([]int, 1<<20)
	for i := range l {
		l[i] = 16 + i*i%16
	}
	b := beginning(1, 1<<14, sample.Range(16, 32, 1)...)
	var once []int
	for i := range 16 {
		if slices.Contains(l, 16+i) {
			once = append(once, 16+i)
		}
	}
	some, code := bdd.Exists(b, l)
	want, _ := bdd.Exists(b, once)
	show(t, "Exists", some, code, want, api.OK)
}

func testAsk(t *testing.T, r *rand.Rand, w world, x, y []bool) {
	t.Helper()
	b := draw(w, x)
	in := make([]bool, w.Vars)
	for i := range in {
		in[i] = r.Intn(2) == 1
	}
	if v, code := bdd.Eval(b, in); v != x[sample.Rank(w.At(in))] || code != api.OK {
		t.Fatalf("Eval(%v, %v) = %t, %d", b, in, v, code)
	}
	count := 0
	for _, v := range x {
		count += number(v)
	}
	count <<= w.Vars - len(w.Over)
	if n, code := bdd.Count(b); n != count || code != api.OK {
		t.Fatalf("Count(%v) = %d, %d; want %d", b, n, code, count)
	}
	testFirst(t, w, x)
	var support []int
	for _, i := range w.Over {
		if !slices.Equal(sample.Fixed(w, x, i, false), sample.Fixed(w, x, i, true)) {
			support = append(support, i)
		}
	}
	if l, code := bdd.Support(b); !slices.Equal(l, support) || code != api.OK {
		t.Fatalf("Support(%v) = %v, %d; want %v", b, l, code, support)
	}
	implies := true
	for i := range x {
		implies = implies && (!x[i] || y[i])
	}
	if v, code := bdd.Implies(b, draw(w, y)); v != implies || code != api.OK {
		t.Fatalf("Implies(%v, %v) = %t, %d", b, draw(w, y), v, code)
	}
}

func testFirst(t *testing.T, w world, x []bool) {
	t.Helper()
	first, code := bdd.First(draw(w, x))
	if !slices.Contains(x, true) {
		if first != nil || code != api.ErrMissing {
			t.Fatalf("First of false = %v, %d", first, code)
		}
		return
	}
	want := make([]bool, w.Vars)
	for place, i := range w.Over {
		want[i] = slices.Index(x, true)>>(len(w.Over)-1-place)&1 == 1
	}
	if !slices.Equal(first, want) || code != api.OK {
		t.Fatalf("First(%v) = %v, %d; want %v", draw(w, x), first, code, want)
	}
}

func TestP27_5AllSmall(t *testing.T) {
	r := rand.New(rand.NewSource(1))
	for vars := range 4 {
		w := sample.Small(vars)
		functions(w, func(x []bool) {
			testAsk(t, r, w, x, function(r, w))
			if vars < 3 {
				functions(w, func(y []bool) { testAsk(t, r, w, x, y) })
			}
			sample.Assignments(vars, func(in []bool) {
				if v, code := bdd.Eval(draw(w, x), in); v != x[sample.Rank(in)] || code != api.OK {
					t.Fatalf("Eval(%v, %v) = %t, %d", x, in, v, code)
				}
			})
		})
	}
}

func TestP27_5Random(t *testing.T) {
	each(6, func(r *rand.Rand, w world) {
		x := function(r, w)
		y := function(r, w)
		testAsk(t, r, w, x, y)
		testAsk(t, r, w, sample.Pointwise(and, x, y), y)
		testAsk(t, r, w, x, sample.Pointwise(or, x, y))
	})
}

func TestP27_5Examples(t *testing.T) {
	all, _ := bdd.Const(api.MaxBit, true)
	if n, code := bdd.Count(all); n != 1<<api.MaxBit || code != api.OK {
		t.Errorf("Count = %d, %d", n, code)
	}
	if n, code := bdd.Count(chain(0, api.MaxBit)); n != 1 || code != api.OK {
		t.Errorf("Count = %d, %d", n, code)
	}
	if l, code := bdd.First(api.Bdd{Root: 1}); len(l) != 0 || code != api.OK {
		t.Errorf("First = %v, %d", l, code)
	}
	if l, code := bdd.First(chain(38, 40)); code != api.OK || len(l) != 40 || slices.Index(l, true) != 38 || !l[39] {
		t.Errorf("First = %v, %d", l, code)
	}
}

func TestP27_5Errors(t *testing.T) {
	two, three := api.Bdd{Vars: 2, Root: 1}, api.Bdd{Vars: 3, Root: 1}
	for _, e := range []struct {
		b    api.Bdd
		in   []bool
		want api.Code
	}{{invalid, nil, api.ErrArgument}, {two, nil, api.ErrMismatch}, {two, make([]bool, 1), api.ErrMismatch}, {two, make([]bool, 3), api.ErrMismatch}, {api.Bdd{}, make([]bool, 1), api.ErrMismatch}} {
		if v, code := bdd.Eval(e.b, e.in); v || code != e.want {
			t.Errorf("Eval = %t, %d; want %d", v, code, e.want)
		}
	}
	if n, code := bdd.Count(invalid); n != 0 || code != api.ErrArgument {
		t.Errorf("Count = %d, %d", n, code)
	}
	if l, code := bdd.First(invalid); l != nil || code != api.ErrArgument {
		t.Errorf("First = %v, %d", l, code)
	}
	if l, code := bdd.First(api.Bdd{Vars: 3}); l != nil || code != api.ErrMissing {
		t.Errorf("First = %v, %d", l, code)
	}
	if l, code := bdd.Support(invalid); l != nil || code != api.ErrArgument {
		t.Errorf("Support = %v, %d", l, code)
	}
	for _, e := range []struct {
		a, b api.Bdd
		want api.Code
	}{{invalid, three, api.ErrArgument}, {three, invalid, api.ErrArgument}, {two, three, api.ErrMismatch}} {
		if v, code := bdd.Implies(e.a, e.b); v || code != e.want {
			t.Errorf("Implies = %t, %d; want %d", v, code, e.want)
		}
	}
}

func TestP27_7Consequences(t *testing.T) {
	each(7, func(r *rand.Rand, w world) {
		b := draw(w, function(r, w))
		not, _ := bdd.Not(b)
		n, _ := bdd.Count(b)
		if m, _ := bdd.Count(not); n+m != 1<<w.Vars {
			t.Fatalf("%v is true %d times, its negation %d times", b, n, m)
		}
		l := w.Variables(r.Intn, 4)
		some, _ := bdd.Exists(not, l)
		none, _ := bdd.Not(some)
		all, code := bdd.Forall(b, l)
		show(t, "Forall", all, code, none, api.OK)
		if w.Vars > 0 {
			i := w.Variable(r.Intn)
			x, _ := bdd.Variable(w.Vars, i)
			yes, _ := bdd.Restrict(b, i, true)
			no, _ := bdd.Restrict(b, i, false)
			whole, code := bdd.Ite(x, yes, no)
			show(t, "Shannon's expansion", whole, code, b, api.OK)
		}
	})
}

// Arguments are neither changed nor kept, and results share no memory with them.
func TestMemory(t *testing.T) {
	w := sample.Small(3)
	x := []bool{false, true, true, false, true, false, false, true}
	y := []bool{false, false, true, true, false, true, true, true}
	l, in := []int{2, 1, 2}, []bool{true, false, true}
	results := func(a, b api.Bdd, table []bool) [][]api.Fork {
		var all [][]api.Fork
		add := func(b api.Bdd, code api.Code) {
			if code != api.OK {
				t.Errorf("code %d", code)
			}
			all = append(all, b.Nodes)
		}
		add(bdd.FromTable(3, table))
		add(bdd.Not(a))
		for op := range 16 {
			add(bdd.Apply(op, a, b))
		}
		add(bdd.Ite(a, a, b))
		add(bdd.Ite(a, b, b))
		add(bdd.Restrict(a, 1, true))
		add(bdd.Compose(a, 1, b))
		add(bdd.Exists(a, l[:1]))
		add(bdd.Forall(a, nil))
		add(bdd.Exists(a, l[:0]))
		bdd.Support(a)
		bdd.Implies(a, b)
		bdd.Eval(a, in)
		return all
	}
	a, b := draw(w, x), draw(w, y)
	first := results(a, b, x)
	for _, nodes := range results(a, b, x) {
		for i := range nodes {
			nodes[i] = api.Fork{}
		}
	}
	if !equal(a, draw(w, x)) || !equal(b, draw(w, y)) || sample.Rank(x) != 105 || !slices.Equal(l, []int{2, 1, 2}) || !slices.Equal(in, []bool{true, false, true}) {
		t.Error("an argument was changed")
	}
	for i, nodes := range results(a, b, x) {
		if !slices.Equal(nodes, first[i]) {
			t.Errorf("the result %d was changed", i)
		}
	}
}
