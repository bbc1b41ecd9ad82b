package counter

import (
	"math"
	"math/rand"
	"testing"

	"keyhole/api"
	"keyhole/cnf"
	"keyhole/sample"
)

// random returns a random formula of three literals a clause.
func random(r *rand.Rand, vars, keep, count int) api.Cnf {
	var clauses [][]int
	for range count {
		clauses = append(clauses, sample.Clause(r.Intn, vars, 3))
	}
	c, code := cnf.Make(vars, keep, clauses)
	if code != api.OK {
		panic(code)
	}
	return c
}

// TestPatience is about searches that end too early.
func TestPatience(t *testing.T) {
	r := rand.New(rand.NewSource(1))
	c := random(r, 40, 20, 80)
	k := newCounter(c)
	if k.patience != patience {
		t.Errorf("the patience is %d", k.patience)
	}
	if n, code := k.count(c, nil); n == 0 || code != api.OK {
		t.Errorf("%d, %d", n, code)
	}
	for _, part := range []int{2, 3, 10} {
		early := newCounter(c)
		early.patience = k.met / part
		if n, code := early.count(c, nil); n != 0 || code != api.ErrLimit {
			t.Errorf("%d, %d", n, code)
		}
	}
	if few := newCounter(api.Cnf{Vars: api.MaxSearch}); few.patience != math.MaxInt {
		t.Errorf("the patience for few variables is %d", few.patience)
	}
}

// TestHard is about a formula that is too hard for package sat.
func TestHard(t *testing.T) {
	r := rand.New(rand.NewSource(2))
	c := random(r, 300, 40, 1280)
	n, code := Count(c)
	l, code2 := Frequency(c)
	trace, code3 := Trace(c)
	if n != 0 || code != api.ErrLimit || l != nil || code2 != api.ErrLimit || trace.Claims != nil || code3 != api.ErrLimit {
		t.Errorf("%d, %d, %v, %d, %v, %d", n, code, l, code2, trace, code3)
	}
}

func TestBulk(t *testing.T) {
	r := rand.New(rand.NewSource(3))
	c := random(r, 30, 15, 60)
	whole := newTracer(c)
	if i := whole.count(c.Clauses); i != len(whole.claims)-1 || whole.spent || whole.bulk != bulk {
		t.Fatalf("%d of %d claims", i, len(whole.claims))
	}
	for _, part := range []int{2, 3, 10} {
		early := newTracer(c)
		early.bulk = whole.met / part
		if i := early.count(c.Clauses); i != none || !early.spent {
			t.Errorf("%d", i)
		}
	}
	late := newTracer(c)
	late.spent = true
	if i := late.count(c.Clauses); i != none || !late.spent || len(late.claims) > 0 {
		t.Errorf("%d", i)
	}
	if few := newTracer(api.Cnf{Vars: fewVars}); few.bulk != math.MaxInt {
		t.Errorf("the bulk for few variables is %d", few.bulk)
	}
}

// TestMaxTrace is about traces that would have one claim too much.
func TestMaxTrace(t *testing.T) {
	r := rand.New(rand.NewSource(4))
	c := random(r, 30, 15, 60)
	whole := newTracer(c)
	whole.count(c.Clauses)
	for more := range 2 {
		full := newTracer(c)
		full.claims = make([]api.Claim, api.MaxTrace-len(whole.claims)+more)
		i := full.count(c.Clauses)
		if more == 0 && (i != api.MaxTrace-1 || full.spent) || more == 1 && (i != none || !full.spent) {
			t.Errorf("%d, %v", i, full.spent)
		}
	}
	wide := random(r, 45, 25, 70)
	if trace, code := Trace(wide); trace.Claims != nil || code != api.ErrLimit {
		t.Errorf("%d claims, %d", len(trace.Claims), code)
	}
}

// TestPruned compares the projected counts with and without the clauses that are dropped, for few kept variables and all values of the others.
func TestPruned(t *testing.T) {
	r := rand.New(rand.NewSource(5))
	dropped := 0
	for range 3000 {
		vars := 2 + r.Intn(6)
		keep := r.Intn(vars)
		var clauses [][]int
		for range r.Intn(2 * vars) {
			clauses = append(clauses, sample.Clause(r.Intn, vars, min(vars, 1+r.Intn(3))))
		}
		clauses = cnf.Canonical(clauses)
		left := pruned(clauses, vars, keep)
		if len(left) < len(clauses) {
			dropped++
		}
		before, after := map[int]bool{}, map[int]bool{}
		sample.Assignments(vars, func(in []bool) {
			if sample.IsModel(clauses, in) {
				before[sample.Rank(in[:keep])] = true
			}
			if sample.IsModel(left, in) {
				after[sample.Rank(in[:keep])] = true
			}
		})
		if len(before) != len(after) {
			t.Fatalf("%v of %d variables becomes %v", clauses, vars, left)
		}
	}
	if dropped < 1000 {
		t.Errorf("%d formulas have become shorter", dropped)
	}
	// The variable 4 says what the variables 1 to 3 are, and 5 what 4 is.
	gates := [][]int{{-4, 1}, {-4, 2, 3}, {4, -1, -2}, {4, -1, -3}, {5, 4}, {-5, -4}}
	if left := pruned(cnf.Canonical(gates), 5, 3); len(left) != 0 {
		t.Errorf("%v", left)
	}
	if left := pruned(cnf.Canonical(gates), 5, 5); len(left) != 6 {
		t.Errorf("%v", left)
	}
	// The same with 4 and 5 exchanged.
	for _, clause := range gates {
		for i, lit := range clause {
			if v := max(lit, -lit); v > 3 {
				clause[i] = lit / v * (9 - v)
			}
		}
	}
	if left := pruned(cnf.Canonical(gates), 5, 3); len(left) != 0 {
		t.Errorf("%v", left)
	}
}
