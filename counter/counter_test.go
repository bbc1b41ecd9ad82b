package counter_test

import (
	"math"
	"math/rand"
	"slices"
	"testing"

	"keyhole/api"
	"keyhole/bdd"
	"keyhole/cnf"
	"keyhole/counter"
	"keyhole/mtbdd"
	"keyhole/sample"
)

// wantCount reports an error if Count does not return a number.
func wantCount(t *testing.T, c api.Cnf, want int) {
	t.Helper()
	if got, code := counter.Count(c); got != want || code != api.OK {
		if len(c.Clauses) > 50 {
			c.Clauses = nil
		}
		t.Fatalf("Count(%v) = %d, %d, not %d", c, got, code, want)
	}
}

func TestP32_1Examples(t *testing.T) {
	for keep, want := range []int{1, 2, 3} {
		wantCount(t, made(2, keep, []int{1, 2}), want)
	}
	wantCount(t, made(3, 2, []int{-1, 3}, []int{-2, -3}), 3)
	wantCount(t, made(0, 0), 1)
	wantCount(t, made(0, 0, []int{}), 0)
	wantCount(t, made(40, 40), 1<<40)
	wantCount(t, made(20000, 40, []int{20000}), 1<<40)
	wantCount(t, made(20000, 40, []int{-40, 20000}, []int{-40, -20000}), 1<<39)
}

func TestP32_1Count(t *testing.T) {
	none, some, many := 0, 0, 0
	each(t, 6000, 10, func(r *rand.Rand, c api.Cnf) {
		want := countModel(c, nil)
		wantCount(t, c, want)
		switch {
		case want == 0:
			none++
		case want == 1<<c.Keep:
			some++
		default:
			many++
		}
	})
	if none < 500 || some < 500 || many < 500 {
		t.Errorf("%d, %d and %d formulas", none, some, many)
	}
}

// TestP32_1Widened is about formulas of more than MaxSearch variables, which are not so hard that their count may be missing.
func TestP32_1Widened(t *testing.T) {
	r := rand.New(rand.NewSource(3))
	for i := range 1500 {
		c := formula(r, 9)
		wantCount(t, widened(r, c, 11+i%60), countModel(c, nil))
	}
}

func TestP32_1Diagrams(t *testing.T) {
	r := rand.New(rand.NewSource(4))
	for _, nodes := range []int{1, 10, 100, 1000} {
		b := sample.Binary(sample.Sized(nodes, sample.Range(0, 40, 1)...))
		want, code := bdd.Count(b)
		c, code2 := cnf.OfBdd(b)
		if code != api.OK || code2 != api.OK || len(b.Nodes) < nodes {
			t.Fatalf("%d, %d, %d nodes", code, code2, len(b.Nodes))
		}
		wantCount(t, c, want)
	}
	for vars := range 9 {
		leaves := 1 + r.Intn(20)
		words := make([][]bool, leaves)
		for i := range words {
			words[i] = []bool{i%7 > 3, i%5 > 2, i%2 > 0, i%3 > 1, i%4 > 1}
		}
		table := make([]int, 1<<vars)
		met := map[string]bool{}
		for i := range table {
			table[i] = r.Intn(leaves+2) - 1
			table[i] = min(table[i], leaves-1)
			if table[i] >= 0 {
				met[text(words[table[i]])] = true
			}
		}
		a, code := mtbdd.FromTable(vars, table)
		c, code2 := cnf.OfMtbdd(a, words)
		if code != api.OK || code2 != api.OK {
			t.Fatalf("%d, %d", code, code2)
		}
		wantCount(t, c, len(met))
	}
}

// TestP32_1Hard is about formulas of MaxSearch variables, of which there must always be a count.
func TestP32_1Hard(t *testing.T) {
	r := rand.New(rand.NewSource(5))
	c := parities(r, 24, 12, 5)
	n, code := counter.Count(c)
	if code != api.OK || n < 1<<12 || n&(n-1) != 0 {
		t.Errorf("parities of 5 have %d models, %d", n, code)
	}
	// Such parities stay the same if all variables change.
	c = parities(r, 24, 29, 12)
	for keep, want := range map[int]int{0: 1, 12: 2, 24: 2} {
		c.Keep = keep
		wantCount(t, c, want)
	}
	wantCount(t, made(20, 20, sample.Pigeons(4, 5)...), 360)
	wantCount(t, made(24, 24, sample.Pigeons(4, 6)...), 3360)
	wantCount(t, made(20, 10, sample.Pigeons(5, 4)...), 0)
	all := sample.Everything(12)
	wantCount(t, made(24, 24, all[:4090]...), 6<<12)
	wantCount(t, made(24, 12, all[5:]...), 5)
	wantCount(t, made(24, 6, all[64:]...), 1)
	var clauses [][]int
	for len(clauses) < api.MaxClause {
		clause := sample.Clause(r.Intn, 24, 4)
		clause[0] = max(clause[0], -clause[0])
		clauses = append(clauses, clause)
	}
	c = made(24, 24, clauses...)
	if n, code := counter.Count(c); n < 1 || code != api.OK {
		t.Errorf("%d clauses have %d models, %d", len(c.Clauses), n, code)
	}
}

// chain returns the formula that no variable is true before a false one.
func chain(vars, keep int) api.Cnf {
	var clauses [][]int
	for v := 1; v < vars; v++ {
		clauses = append(clauses, []int{-v, v + 1})
	}
	return made(vars, keep, clauses...)
}

func TestP32_1Chains(t *testing.T) {
	for _, vars := range []int{1, 23, 24, 25, 40, 20000} {
		keep := min(vars, 40)
		wantCount(t, chain(vars, keep), keep+1)
		wantCount(t, chain(vars, keep/2), keep/2+1)
	}
}

// TestP32_1Alike is about components that are alike but for the kept variables.
func TestP32_1Alike(t *testing.T) {
	wantCount(t, made(4, 3, []int{1, 2}, []int{3, 4}), 6)
	wantCount(t, made(6, 5, []int{1, 6}, []int{2, -6}, []int{3, 5}, []int{4, -5}), 12)
}

func TestP32_1Sums(t *testing.T) {
	for _, count := range []int{1, 2, 12, 13, 40} {
		wantCount(t, made(2*count, count, sample.Sums(count)...), 1<<(count-1))
		wantCount(t, made(2*count, min(2*count, 40), sample.Sums(count)...), 1<<(count-1))
	}
}

// counted returns the projected count of a formula with literals.
func counted(t *testing.T, c api.Cnf, lits ...int) int {
	t.Helper()
	n, code := counter.CountWith(c, lits)
	if code != api.OK {
		t.Fatalf("CountWith(%v, %v): %d", c, lits, code)
	}
	return n
}

func TestP32_2CountWith(t *testing.T) {
	c := made(2, 2, []int{1, 2})
	if n := counted(t, c, -1); n != 1 {
		t.Errorf("%d", n)
	}
	changed := 0
	each(t, 3000, 8, func(r *rand.Rand, c api.Cnf) {
		for range 3 {
			var lits []int
			for range r.Intn(4) {
				if c.Vars > 0 {
					lits = append(lits, sample.Clause(r.Intn, c.Vars, 1)[0])
				}
			}
			if len(lits) > 1 && r.Intn(3) == 0 {
				lits[0] = lits[1] * (1 - 2*r.Intn(2))
			}
			want := countModel(c, lits)
			if got := counted(t, c, lits...); got != want {
				t.Fatalf("CountWith(%v, %v) = %d, not %d", c, lits, got, want)
			}
			if want > 0 && want < countModel(c, nil) {
				changed++
			}
		}
	})
	if changed < 1000 {
		t.Errorf("%d counts with fewer models", changed)
	}
}

func TestP32_2Frequency(t *testing.T) {
	if l, code := counter.Frequency(made(2, 2, []int{1, 2})); !slices.Equal(l, []int{2, 2}) || code != api.OK {
		t.Errorf("%v, %d", l, code)
	}
	each(t, 1000, 8, func(r *rand.Rand, c api.Cnf) {
		l, code := counter.Frequency(c)
		if code != api.OK || len(l) != c.Keep {
			t.Fatalf("Frequency(%v) = %v, %d", c, l, code)
		}
		for i, n := range l {
			if want := countModel(c, []int{i + 1}); n != want {
				t.Fatalf("Frequency(%v) = %v", c, l)
			}
		}
	})
	l, code := counter.Frequency(chain(20000, 40))
	if !slices.Equal(l, sample.Range(1, 41, 1)) || code != api.OK {
		t.Errorf("%v, %d", l, code)
	}
}

func TestP32_3Components(t *testing.T) {
	want := [][]int{{0, 2}, {1, 4}, {3}}
	if l := counter.Components([][]int{{1, 2}, {3}, {-2, 4}, {}, {5, -3}}); !sample.IsSameList(l, want) {
		t.Errorf("%v", l)
	}
	if l := counter.Components(nil); len(l) != 0 {
		t.Errorf("%v", l)
	}
	r := rand.New(rand.NewSource(6))
	numbers := []int{0, 1, -1, 2, -2, 3, 7, -7, 1 << 40, -1 << 40, math.MaxInt, -math.MaxInt, math.MinInt, math.MinInt + 1}
	several := 0
	for range 5000 {
		l := make([][]int, r.Intn(9))
		for i := range l {
			for range r.Intn(4) {
				l[i] = append(l[i], numbers[r.Intn(len(numbers))])
			}
		}
		want := componentsModel(l)
		if got := counter.Components(l); !sample.IsSameList(got, want) {
			t.Fatalf("Components(%v) = %v, not %v", l, got, want)
		}
		if len(want) > 1 && len(want) < len(l) {
			several++
		}
	}
	if several < 1000 {
		t.Errorf("%d lists with several components", several)
	}
}

// TestP32_3Many is about lists in which the links between clauses are long.
func TestP32_3Many(t *testing.T) {
	count := 300000
	var up, down, stars [][]int
	for i := range count {
		up = append(up, []int{i, i + 1})
		down = append(down, []int{count - i, count - i + 1})
		stars = append(stars, []int{i % 1000, 1000 + i})
	}
	if l := counter.Components(up); len(l) != 1 || !slices.Equal(l[0], sample.Range(0, count, 1)) {
		t.Errorf("%d components", len(l))
	}
	if l := counter.Components(down); len(l) != 1 || !slices.Equal(l[0], sample.Range(0, count, 1)) {
		t.Errorf("%d components", len(l))
	}
	l := counter.Components(stars)
	if len(l) != 1000 {
		t.Fatalf("%d components", len(l))
	}
	for i, own := range l {
		if !slices.Equal(own, sample.Range(i, count, 1000)) {
			t.Fatalf("the component %d is wrong", i)
		}
	}
}

func TestP32_5Properties(t *testing.T) {
	r := rand.New(rand.NewSource(7))
	for i := range 400 {
		c := widened(r, formula(r, 14), 15+i%12)
		n := counted(t, c)
		for v := 1; v <= c.Keep; v++ {
			if no, yes := counted(t, c, -v), counted(t, c, v); no+yes != n {
				t.Fatalf("%v has %d + %d of %d models", c, no, yes, n)
			}
		}
		fewer := c
		fewer.Clauses = slices.Delete(slices.Clone(c.Clauses), 0, min(1, len(c.Clauses)))
		if m := counted(t, fewer); m < n {
			t.Fatalf("%v has %d models, with less clauses %d", c, n, m)
		}
		before := -1
		for keep := range min(c.Vars, 20) + 1 {
			c.Keep = keep
			n := counted(t, c)
			if before >= 0 && (n < before || n > 2*before) || keep == 0 && n > 1 {
				t.Fatalf("%v has %d models, before %d", c, n, before)
			}
			before = n
		}
	}
}

func TestP32_5Products(t *testing.T) {
	r := rand.New(rand.NewSource(8))
	for i := range 300 {
		a := widened(r, formula(r, 12), 13+i%20)
		b := widened(r, formula(r, 12), 13+i%15)
		if n, m, both := counted(t, a), counted(t, b), counted(t, beside(a, b)); n*m != both {
			t.Fatalf("%v and %v have %d, %d and together %d models", a, b, n, m, both)
		}
	}
}

func TestErrors(t *testing.T) {
	good := made(2, 2, []int{1, 2})
	wide := made(41, 41, []int{1, 41})
	for _, c := range []struct {
		c    api.Cnf
		lits []int
		want api.Code
	}{
		{api.Cnf{Vars: -1}, []int{0}, api.ErrArgument},
		{api.Cnf{Vars: 41, Keep: 42}, []int{0}, api.ErrArgument},
		{api.Cnf{Vars: 20001, Keep: 41}, []int{0}, api.ErrLimit},
		{api.Cnf{Vars: 41, Keep: 41, Clauses: [][]int{{42}}}, nil, api.ErrRange},
		{api.Cnf{Vars: 41, Keep: 41, Clauses: [][]int{{2}, {1}}}, []int{0}, api.ErrOrder},
		{good, []int{1, 0}, api.ErrRange},
		{good, []int{-3}, api.ErrRange},
		{good, []int{2, 3}, api.ErrRange},
		{good, []int{math.MinInt}, api.ErrRange},
		{wide, []int{42}, api.ErrRange},
		{wide, []int{41}, api.ErrLimit},
		{wide, nil, api.ErrLimit},
		{good, []int{-2, -2, 1}, api.OK},
	} {
		if n, code := counter.CountWith(c.c, c.lits); code != c.want || code != api.OK && n != 0 {
			t.Errorf("CountWith(%v, %v) = %d, %d", c.c, c.lits, n, code)
		}
		if c.lits != nil && c.want == api.ErrRange {
			continue
		}
		n, code := counter.Count(c.c)
		l, code2 := counter.Frequency(c.c)
		trace, code3 := counter.Trace(c.c)
		if code != c.want || code2 != c.want || code3 != c.want || code != api.OK && (n != 0 || l != nil || trace.Claims != nil) {
			t.Errorf("%v: %d, %d, %d", c.c, code, code2, code3)
		}
	}
}
