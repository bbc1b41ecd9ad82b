package ddnnf_test

import (
	"math"
	"math/rand"
	"slices"
	"testing"

	"keyhole/api"
	"keyhole/ddnnf"
	"keyhole/sample"
)

// each calls visit with random valid normal forms of at most so many variables.
func each(seed int64, count, most int, visit func(r *rand.Rand, d api.Dnnf)) {
	r := rand.New(rand.NewSource(seed))
	visit(r, example())
	for range count {
		visit(r, random(r, most, 1+r.Intn(20)))
	}
}

func TestP33_1Check(t *testing.T) {
	codes := map[api.Code]int{}
	want := func(d api.Dnnf) {
		t.Helper()
		want := checkModel(d)
		if got := ddnnf.Check(d); got != want {
			t.Fatalf("Check(%v) = %d, not %d", d, got, want)
		}
		codes[want]++
	}
	each(1, 2000, 6, func(r *rand.Rand, d api.Dnnf) {
		if code := checkModel(d); code != api.OK {
			t.Fatalf("%v: %d", d, code)
		}
		want(d)
		for range 5 {
			want(disturbed(r, d))
		}
	})
	for _, code := range []api.Code{api.OK, api.ErrArgument, api.ErrRange, api.ErrOrder, api.ErrMismatch} {
		if codes[code] < 100 {
			t.Errorf("the code %d occurs %d times", code, codes[code])
		}
	}
}

// TestP33_1Small is about all normal forms of one variable with one part of each kind before them.
func TestP33_1Small(t *testing.T) {
	before := []api.Part{always, never, lit(1), and(2), dec(1, 0, 1)}
	lists := [][]int{nil, {-1}, {0}, {2}, {5}, {0, 1}, {0, 0}, {2, 0}, {2, 3}, {2, 2}, {1, 4}, {6, 0}, {0, 1, 0}, {2, 0, 1}, {2, 2, -1}}
	for kind := api.PartKind(-1); kind < 6; kind++ {
		for _, l := range []int{0, 1, -1, 2, -2, math.MinInt, math.MaxInt} {
			for _, kids := range lists {
				for _, vars := range []int{-1, 0, 1, 2, 40, 41} {
					d := api.Dnnf{Vars: vars, Parts: append(slices.Clone(before), api.Part{Kind: kind, Lit: l, Kids: kids})}
					if got, want := ddnnf.Check(d), checkModel(d); got != want {
						t.Fatalf("Check(%v) = %d, not %d", d, got, want)
					}
				}
			}
		}
	}
}

func TestP33_1Limits(t *testing.T) {
	many := make([]api.Part, ddnnf.MaxParts+1)
	for _, c := range []struct {
		d    api.Dnnf
		want api.Code
	}{
		{api.Dnnf{}, api.ErrArgument},
		{api.Dnnf{Vars: -1, Parts: many}, api.ErrArgument},
		{api.Dnnf{Vars: math.MinInt}, api.ErrArgument},
		{api.Dnnf{Vars: 41}, api.ErrLimit},
		{api.Dnnf{Vars: 40}, api.ErrArgument},
		{api.Dnnf{Vars: 40, Parts: many[1:]}, api.OK},
		{api.Dnnf{Vars: 40, Parts: many}, api.ErrLimit},
		{api.Dnnf{Vars: 2, Parts: []api.Part{lit(1), lit(-1), and(0, 1)}}, api.ErrMismatch},
		{api.Dnnf{Vars: 2, Parts: []api.Part{always, and(0, 0)}}, api.OK},
		{api.Dnnf{Vars: 2, Parts: []api.Part{lit(2), dec(1, 0, 0)}}, api.OK},
	} {
		if got := ddnnf.Check(c.d); got != c.want {
			t.Errorf("Check of %d variables and %d parts = %d, not %d", c.d.Vars, len(c.d.Parts), got, c.want)
		}
	}
}

func TestP33_2Eval(t *testing.T) {
	both := 0
	each(2, 2000, 6, func(r *rand.Rand, d api.Dnnf) {
		count := 0
		sample.Assignments(d.Vars, func(in []bool) {
			want := valueModel(d.Parts, len(d.Parts)-1, in)
			if got, code := ddnnf.Eval(d, in); got != want || code != api.OK {
				t.Fatalf("Eval(%v, %v) = %v, %d", d, in, got, code)
			}
			if want {
				count++
			}
		})
		if count > 0 && count < 1<<d.Vars {
			both++
		}
		for _, size := range []int{d.Vars - 1, d.Vars + 1} {
			if size < 0 {
				continue
			}
			if got, code := ddnnf.Eval(d, make([]bool, size)); got || code != api.ErrMismatch {
				t.Fatalf("%v, %d", got, code)
			}
		}
	})
	if both < 500 {
		t.Errorf("%d normal forms with both values", both)
	}
}

func TestP33_3Counts(t *testing.T) {
	if l, code := ddnnf.Frequency(example()); !slices.Equal(l, []int{2, 3, 1}) || code != api.OK {
		t.Errorf("%v, %d", l, code)
	}
	each(3, 2000, 7, func(r *rand.Rand, d api.Dnnf) {
		models := modelsOf(d)
		if n, code := ddnnf.Count(d); n != len(models) || code != api.OK {
			t.Fatalf("Count(%v) = %d, %d, not %d", d, n, code, len(models))
		}
		want := make([]int, d.Vars)
		for _, in := range models {
			for i, v := range in {
				if v {
					want[i]++
				}
			}
		}
		if l, code := ddnnf.Frequency(d); !slices.Equal(l, want) || code != api.OK {
			t.Fatalf("Frequency(%v) = %v, %d, not %v", d, l, code, want)
		}
	})
}

func TestP33_3Wide(t *testing.T) {
	for _, vars := range []int{4, 39, 40} {
		d, want := wide(vars)
		if vars == 4 {
			if n := len(modelsOf(d)); n != want {
				t.Fatalf("%d models, not %d", n, want)
			}
		}
		if n, code := ddnnf.Count(d); n != want || code != api.OK {
			t.Errorf("Count = %d, %d, not %d", n, code, want)
		}
		l, code := ddnnf.Frequency(d)
		if code != api.OK || l[0] != want/6*4 || l[1] != 0 || l[2] != want/2 || l[3] != want/6*4 {
			t.Errorf("Frequency = %v, %d of %d", l, code, want)
		}
	}
	for _, c := range []struct {
		part api.Part
		want int
	}{{always, 1 << 40}, {never, 0}, {lit(-40), 1 << 39}, {and(), 1 << 40}} {
		d := api.Dnnf{Vars: 40, Parts: []api.Part{c.part}}
		if n, code := ddnnf.Count(d); n != c.want || code != api.OK {
			t.Errorf("%v: %d, %d", c.part, n, code)
		}
	}
	chain := api.Dnnf{Vars: 40, Parts: []api.Part{lit(40)}}
	for v := 1; v < 40; v++ {
		chain.Parts = append(chain.Parts, always, dec(v, len(chain.Parts)-1, len(chain.Parts)))
	}
	if n, code := ddnnf.Count(chain); n != 1<<40-1 || code != api.OK {
		t.Errorf("%d, %d", n, code)
	}
}

func TestP33_4Condition(t *testing.T) {
	d, code := ddnnf.Condition(example(), []int{-1})
	want := api.Dnnf{Vars: 3, Parts: []api.Part{lit(2), lit(-3), and(0, 1), and(2)}}
	if !isSame(d, want) || code != api.OK {
		t.Errorf("%v, %d", d, code)
	}
	if n, code := ddnnf.Count(d); n != 2 || code != api.OK {
		t.Errorf("%d, %d", n, code)
	}
	each(4, 2000, 6, func(r *rand.Rand, d api.Dnnf) {
		lits := sample.Clause(r.Intn, d.Vars, r.Intn(d.Vars+1))
		c, code := ddnnf.Condition(d, lits)
		if code != api.OK || len(c.Parts) != len(d.Parts) || c.Vars != d.Vars || ddnnf.Check(c) != api.OK {
			t.Fatalf("Condition(%v, %v) = %v, %d", d, lits, c, code)
		}
		for i, p := range d.Parts {
			want := p
			switch {
			case p.Kind == api.PartLit && slices.Contains(lits, p.Lit):
				want = always
			case p.Kind == api.PartLit && slices.Contains(lits, -p.Lit):
				want = never
			case p.Kind == api.PartDecide && slices.Contains(lits, p.Lit):
				want = and(p.Kids[1])
			case p.Kind == api.PartDecide && slices.Contains(lits, -p.Lit):
				want = and(p.Kids[0])
			}
			if !isSame(api.Dnnf{Parts: []api.Part{want}}, api.Dnnf{Parts: []api.Part{c.Parts[i]}}) {
				t.Fatalf("the part %v becomes %v with %v", p, c.Parts[i], lits)
			}
		}
		sample.Assignments(d.Vars, func(in []bool) {
			got, _ := ddnnf.Eval(c, in)
			for _, lit := range lits {
				in[max(lit, -lit)-1] = lit > 0
			}
			if want := valueModel(d.Parts, len(d.Parts)-1, in); got != want {
				t.Fatalf("Condition(%v, %v) has the value %v for %v", d, lits, got, in)
			}
		})
	})
}

func TestP33_4Errors(t *testing.T) {
	for _, c := range []struct {
		lits []int
		want api.Code
	}{
		{nil, api.OK},
		{[]int{3, -1}, api.OK},
		{[]int{0}, api.ErrRange},
		{[]int{4}, api.ErrRange},
		{[]int{-4}, api.ErrRange},
		{[]int{math.MinInt}, api.ErrRange},
		{[]int{math.MaxInt}, api.ErrRange},
		{[]int{1, 1}, api.ErrDuplicate},
		{[]int{1, -1}, api.ErrDuplicate},
		{[]int{1, -1, 0}, api.ErrDuplicate},
		{[]int{1, 0, -1}, api.ErrRange},
	} {
		if d, code := ddnnf.Condition(example(), c.lits); code != c.want || code != api.OK && !isSame(d, api.Dnnf{}) {
			t.Errorf("Condition by %v = %v, %d, not %d", c.lits, d, code, c.want)
		}
	}
}

func TestP33_5Models(t *testing.T) {
	none := 0
	each(5, 1500, 6, func(r *rand.Rand, d api.Dnnf) {
		models := modelsOf(d)
		in, code := ddnnf.Least(d)
		if len(models) == 0 {
			none++
			if in != nil || code != api.ErrMissing {
				t.Fatalf("Least(%v) = %v, %d", d, in, code)
			}
		} else if !slices.Equal(in, models[0]) || code != api.OK {
			t.Fatalf("Least(%v) = %v, %d", d, in, code)
		}
		for n, want := range models {
			if in, code := ddnnf.Nth(d, n); !slices.Equal(in, want) || code != api.OK {
				t.Fatalf("Nth(%v, %d) = %v, %d, not %v", d, n, in, code, want)
			}
		}
		for _, n := range []int{-1, len(models), len(models) + 1, math.MinInt, math.MaxInt} {
			if in, code := ddnnf.Nth(d, n); in != nil || code != api.ErrRange {
				t.Fatalf("Nth(%v, %d) = %v, %d", d, n, in, code)
			}
		}
	})
	if none < 100 {
		t.Errorf("%d normal forms without models", none)
	}
}

func TestP33_5Wide(t *testing.T) {
	d, count := wide(40)
	var before []bool
	for _, n := range []int{0, 1, count / 3, count/3 + 1, count - 1} {
		in, code := ddnnf.Nth(d, n)
		if value, _ := ddnnf.Eval(d, in); !value || code != api.OK {
			t.Fatalf("Nth = %v, %d", in, code)
		}
		if before != nil && sample.Rank(before) >= sample.Rank(in) {
			t.Fatalf("%v is not after %v", in, before)
		}
		before = in
	}
	free := api.Dnnf{Vars: 40, Parts: []api.Part{always}}
	for _, n := range []int{0, 12345678901, 1<<40 - 1} {
		if in, code := ddnnf.Nth(free, n); code != api.OK || sample.Rank(in) != n {
			t.Errorf("Nth(%d) = %v, %d", n, in, code)
		}
	}
	if in, code := ddnnf.Nth(free, 1<<40); in != nil || code != api.ErrRange {
		t.Errorf("%v, %d", in, code)
	}
}

// costs returns a random list of few different costs, so that many models cost the same.
func costs(r *rand.Rand, vars int) []int {
	l := make([]int, vars)
	for i := range l {
		l[i] = r.Intn(3)
	}
	return l
}

func TestP33_6Cheapest(t *testing.T) {
	none, later := 0, 0
	each(6, 3000, 6, func(r *rand.Rand, d api.Dnnf) {
		no, yes := costs(r, d.Vars), costs(r, d.Vars)
		models := modelsOf(d)
		want, best := cheapestModel(models, no, yes)
		cost, in, code := ddnnf.Cheapest(d, no, yes)
		if len(models) == 0 {
			none++
			if cost != 0 || in != nil || code != api.ErrMissing {
				t.Fatalf("Cheapest(%v) = %d, %v, %d", d, cost, in, code)
			}
			return
		}
		if cost != want || !slices.Equal(in, best) || code != api.OK {
			t.Fatalf("Cheapest(%v, %v, %v) = %d, %v, %d, not %d, %v", d, no, yes, cost, in, code, want, best)
		}
		if !slices.Equal(best, models[0]) {
			later++
		}
	})
	if none < 200 || later < 800 {
		t.Errorf("%d normal forms without models, %d whose cheapest model is not the least one", none, later)
	}
}

func TestP33_6Limits(t *testing.T) {
	d := api.Dnnf{Vars: 40, Parts: []api.Part{lit(7)}}
	most := slices.Repeat([]int{api.MaxLoss}, 40)
	cost, in, code := ddnnf.Cheapest(d, most, most)
	if cost != 40*api.MaxLoss || sample.Rank(in) != 1<<33 || code != api.OK {
		t.Errorf("%d, %v, %d", cost, in, code)
	}
	never := api.Dnnf{Vars: 40, Parts: []api.Part{never}}
	good := make([]int, 40)
	for _, c := range []struct {
		d       api.Dnnf
		no, yes []int
		want    api.Code
	}{
		{never, good, good, api.ErrMissing},
		{never, good[1:], []int{-1}, api.ErrMismatch},
		{never, good, nil, api.ErrMismatch},
		{never, append([]int{-1}, good...), good, api.ErrMismatch},
		{never, append([]int{-1}, good[1:]...), good, api.ErrRange},
		{never, good, append(slices.Clone(good[1:]), api.MaxLoss+1), api.ErrRange},
		{api.Dnnf{}, good, nil, api.ErrArgument},
	} {
		if cost, in, code := ddnnf.Cheapest(c.d, c.no, c.yes); cost != 0 || in != nil || code != c.want {
			t.Errorf("Cheapest = %d, %v, %d, not %d", cost, in, code, c.want)
		}
	}
}

// TestErrors is about functions with normal forms that are not valid.
func TestErrors(t *testing.T) {
	each(7, 500, 5, func(r *rand.Rand, d api.Dnnf) {
		d = disturbed(r, d)
		want := checkModel(d)
		if want == api.OK {
			return
		}
		value, code := ddnnf.Eval(d, nil)
		count, code2 := ddnnf.Count(d)
		c, code3 := ddnnf.Condition(d, []int{0})
		least, code4 := ddnnf.Least(d)
		nth, code5 := ddnnf.Nth(d, -1)
		cost, best, code6 := ddnnf.Cheapest(d, nil, []int{-1})
		frequency, code7 := ddnnf.Frequency(d)
		for _, code := range []api.Code{code, code2, code3, code4, code5, code6, code7} {
			if code != want {
				t.Fatalf("%v: %d, not %d", d, code, want)
			}
		}
		if value || count+cost != 0 || !isSame(c, api.Dnnf{}) || least != nil || nth != nil || best != nil || frequency != nil {
			t.Fatalf("%v has results", d)
		}
	})
}

// overwrite gives all kids of a normal form other numbers, with the room behind them, and reports whether they share memory.
func overwrite(parts []api.Part) bool {
	number := 0
	for range 2 {
		shared := false
		number = 0
		for _, p := range parts {
			kids := p.Kids[:cap(p.Kids)]
			for i := range kids {
				number++
				shared = shared || kids[i] != number
				kids[i] = number
			}
		}
		if !shared {
			return false
		}
	}
	return true
}

func TestMemory(t *testing.T) {
	each(8, 300, 6, func(r *rand.Rand, d api.Dnnf) {
		kept := copied(d)
		lits := sample.Clause(r.Intn, d.Vars, r.Intn(d.Vars+1))
		in, no, yes := make([]bool, d.Vars), costs(r, d.Vars), costs(r, d.Vars)
		given := slices.Concat(lits, no, yes)
		ddnnf.Eval(d, in)
		ddnnf.Nth(d, 1)
		ddnnf.Cheapest(d, no, yes)
		ddnnf.Frequency(d)
		c, _ := ddnnf.Condition(d, lits)
		if overwrite(c.Parts) {
			t.Fatal("parts share memory")
		}
		if !isSame(d, kept) || !slices.Equal(given, slices.Concat(lits, no, yes)) || slices.Contains(in, true) {
			t.Fatal("an argument has been changed, or shares memory with a result")
		}
	})
}
