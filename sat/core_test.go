package sat

import (
	"math/rand"
	"slices"
	"testing"

	"keyhole/api"
	"keyhole/cnf"
	"keyhole/space"
)

// random returns a random formula of three literals a clause, whose variables are some of many.
func random(r *rand.Rand, vars, count int) api.Cnf {
	places := r.Perm(40)[:vars]
	var clauses [][]int
	for range count {
		var clause []int
		for _, i := range r.Perm(vars)[:3] {
			clause = append(clause, (places[i]+1)*(1-2*r.Intn(2)))
		}
		clauses = append(clauses, clause)
	}
	c, _ := cnf.Make(40, 0, clauses)
	return c
}

// TestBothCores compares both ways to find a core. Words have the assignments of six variables.
func TestBothCores(t *testing.T) {
	r := rand.New(rand.NewSource(1))
	tested := 0
	for range 600 {
		vars := 3 + r.Intn(8)
		c := random(r, vars, vars*(5+r.Intn(5)))
		if _, found, code := Solve(c); found || code != api.OK {
			continue
		}
		tested++
		want, code := searchCore(c, patience)
		if got := spaceCore(space.New(cnf.Occur(c.Clauses)), c.Clauses); !slices.Equal(got, want) || code != api.OK {
			t.Fatalf("the core of %v is %v and %v, %d", c, got, want, code)
		}
	}
	if tested < 200 {
		t.Errorf("%d formulas without a model", tested)
	}
}

// TestPatience is about searches that end too early.
func TestPatience(t *testing.T) {
	r := rand.New(rand.NewSource(2))
	c := random(r, 30, 150)
	s := newSolver(c.Vars, c.Clauses)
	if s.patience != patience {
		t.Errorf("the patience is %d", s.patience)
	}
	s.patience = s.work + 100
	if code := s.search(s.lowest); code != api.ErrLimit {
		t.Errorf("search = %d", code)
	}
	if core, code := searchCore(c, 10000); core != nil || code != api.ErrLimit {
		t.Errorf("searchCore = %v, %d", core, code)
	}
	if few := newSolver(api.MaxSearch, nil); few.patience <= 1<<60 {
		t.Errorf("the patience for few variables is %d", few.patience)
	}
}

// TestForget lets a solver forget nearly at once, and very often.
func TestForget(t *testing.T) {
	r := rand.New(rand.NewSource(3))
	forgotten := 0
	for range 300 {
		c := random(r, 24, 95+r.Intn(10))
		want, found, code := Solve(c)
		if code != api.OK {
			continue
		}
		var lemmas [][]int
		s := newSolver(c.Vars, c.Clauses)
		room := s.room
		s.learned = func(clause []int) {
			if s.room > room {
				forgotten++
			}
			lemmas = append(lemmas, slices.SortedFunc(slices.Values(clause), byVariable))
			room = len(lemmas) / 4
			s.room = room
		}
		code = s.search(s.lowest)
		if (code == api.OK) != found || code == api.ErrLimit {
			t.Fatalf("search = %d, Solve = %t: %v", code, found, c)
		}
		if !found {
			if ok, _ := Refutes(c, append(lemmas, nil)); !ok {
				t.Fatalf("%v: %v", c, lemmas)
			}
			continue
		}
		for v, value := range want {
			if s.isTrue(v+1) != value {
				t.Fatalf("%v: the value of %d is not %t", c, v+1, value)
			}
		}
	}
	if forgotten < 1000 {
		t.Errorf("forgotten %d times", forgotten)
	}
}
