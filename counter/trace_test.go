package counter_test

import (
	"math/rand"
	"slices"
	"testing"

	"keyhole/api"
	"keyhole/bdd"
	"keyhole/cnf"
	"keyhole/counter"
	"keyhole/mtbdd"
	"keyhole/sample"
)

// wantTrace reports an error if Trace does not return a trace that proves a number, and returns the trace.
func wantTrace(t *testing.T, c api.Cnf, want int) api.Trace {
	t.Helper()
	trace, code := counter.Trace(c)
	if got := totalModel(c, trace); got != want || code != api.OK {
		if len(c.Clauses) > 50 {
			c.Clauses = nil
		}
		t.Fatalf("Trace(%v) proves %d, %d, not %d", c, got, code, want)
	}
	return trace
}

func TestP32_4Trace(t *testing.T) {
	rules := map[int]int{}
	each(t, 4000, 9, func(r *rand.Rand, c api.Cnf) {
		for _, claim := range wantTrace(t, c, countModel(c, nil)).Claims {
			rules[claim.Rule]++
		}
	})
	for rule := range 7 {
		if rules[rule] < 200 {
			t.Errorf("the rule %d occurs %d times", rule, rules[rule])
		}
	}
}

// TestP32_4Widened is about formulas with more variables than 12, which are not so hard that their trace may be missing.
func TestP32_4Widened(t *testing.T) {
	r := rand.New(rand.NewSource(9))
	for i := range 300 {
		c := formula(r, 8)
		wantTrace(t, widened(r, c, 11+i%50), countModel(c, nil))
	}
	wantTrace(t, made(30, 0, sample.Pigeons(6, 5)...), 0)
	wantTrace(t, chain(100, 40), 41)
	b := sample.Binary(sample.Sized(50, sample.Range(0, 12, 1)...))
	want, _ := bdd.Count(b)
	c, code := cnf.OfBdd(b)
	if code != api.OK {
		t.Fatal(code)
	}
	wantTrace(t, c, want)
}

// TestP32_4Long is about formulas that many decisions lead to.
func TestP32_4Long(t *testing.T) {
	for _, count := range []int{1, 2, 12, 40} {
		trace := wantTrace(t, made(2*count, count, sample.Sums(count)...), 1<<(count-1))
		if len(trace.Claims) > 15*count {
			t.Errorf("%d claims for %d variables", len(trace.Claims), 2*count)
		}
	}
	var table []int
	for i := range 256 {
		table = append(table, i*i/7%8)
	}
	a, code := mtbdd.FromTable(8, table)
	c, code2 := cnf.OfMtbdd(a, make([][]bool, 8))
	if code != api.OK || code2 != api.OK {
		t.Fatalf("%d, %d", code, code2)
	}
	wantTrace(t, c, 1)
	for leaf := range a.Leaves {
		c = made(c.Vars, 0, append(slices.Clone(c.Clauses), []int{-9 - leaf})...)
	}
	trace := wantTrace(t, c, 0)
	if len(trace.Claims) > 10*c.Vars {
		t.Errorf("%d claims for %d variables", len(trace.Claims), c.Vars)
	}
}

// TestP32_4Hard is about formulas of 12 variables, which always have a trace.
func TestP32_4Hard(t *testing.T) {
	r := rand.New(rand.NewSource(10))
	all := sample.Everything(12)
	for _, clauses := range [][][]int{
		all, all[1:], all[:4095], all[2000:], sample.Pigeons(4, 3), sample.Pigeons(3, 4),
		sample.Parity(1, 1, 2, 3, 4, 5, 6, 7, 8, 9, 10, 11, 12),
		append(sample.Parity(1, 1, 2, 3, 4, 5, 6, 7, 8, 9, 10, 11), sample.Parity(0, 2, 3, 4, 5, 6, 7, 8, 9, 10, 11, 12)...),
	} {
		for _, keep := range []int{0, 5, 12} {
			c := made(12, keep, clauses...)
			wantTrace(t, c, countModel(c, nil))
		}
	}
	for _, size := range []int{5, 10} {
		var clauses [][]int
		for len(clauses) < api.MaxClause {
			clause := sample.Clause(r.Intn, 12, size)
			clause[size-1] = max(clause[size-1], -clause[size-1])
			clauses = append(clauses, clause)
		}
		for _, keep := range []int{0, 7, 12} {
			c := made(12, keep, clauses...)
			n, code := counter.Count(c)
			if code != api.OK || n == 0 {
				t.Fatalf("%d, %d", n, code)
			}
			if trace, code := counter.Trace(c); totalModel(c, trace) != n || code != api.OK {
				t.Errorf("%d clauses of %d literals have no trace for %d: %d", len(c.Clauses), size, n, code)
			}
		}
	}
}

func TestMemory(t *testing.T) {
	r := rand.New(rand.NewSource(11))
	for range 200 {
		c := formula(r, 8)
		kept := made(c.Vars, c.Keep, c.Clauses...)
		trace, _ := counter.Trace(c)
		want := countModel(c, nil)
		if n := counted(t, c); n != want {
			t.Fatalf("%d, not %d", n, want)
		}
		isUnchanged := func() bool {
			return c.Vars == kept.Vars && c.Keep == kept.Keep && sample.IsSameList(c.Clauses, kept.Clauses)
		}
		if !isUnchanged() {
			t.Fatal("the formula has been changed")
		}
		// Each clause and list of kids gets numbers of its own, with room behind it.
		number := 0
		for i := range trace.Claims {
			claim := &trace.Claims[i]
			for _, list := range append([][]int{claim.Kids}, claim.Clauses...) {
				list = list[:cap(list)]
				for k := range list {
					number++
					list[k] = number
				}
			}
		}
		number = 0
		for i := range trace.Claims {
			claim := &trace.Claims[i]
			for _, list := range append([][]int{claim.Kids}, claim.Clauses...) {
				list = list[:cap(list)]
				for k := range list {
					number++
					if list[k] != number {
						t.Fatal("two lists share memory")
					}
				}
			}
		}
		if !isUnchanged() {
			t.Fatal("the formula shares memory with its trace")
		}
	}
	l := [][]int{{1}, {2}, {1, 3}, {4}}
	components := counter.Components(l)
	for i := range components {
		_ = append(components[i][:0:cap(components[i])], make([]int, cap(components[i]))...)
	}
	if !sample.IsSameList(l, [][]int{{1}, {2}, {1, 3}, {4}}) || !sample.IsSameList(components, [][]int{{0, 0}, {0}, {0}}) {
		t.Errorf("%v, %v", l, components)
	}
}
