package formula_test

import (
	"math/rand"
	"slices"
	"testing"

	"keyhole/api"
	"keyhole/cnf"
	"keyhole/formula"
	"keyhole/sample"
)

// random returns a random canonical list of clauses, some of which have few literals.
func random(r *rand.Rand, vars int) [][]int {
	var clauses [][]int
	for range r.Intn(3 * vars) {
		clauses = append(clauses, sample.Clause(r.Intn, vars, min(vars, 1+r.Intn(4))))
	}
	return cnf.Canonical(clauses)
}

// afterModel makes true what follows, one literal after the other.
func afterModel(clauses [][]int, lits []int) (set map[int]bool, left [][]int, ok bool) {
	set = map[int]bool{}
	for len(lits) > 0 {
		lit := lits[0]
		lits = lits[1:]
		if set[-lit] {
			return nil, nil, false
		}
		set[lit] = true
		clauses = cnf.Residual(clauses, lit)
		for _, clause := range clauses {
			if len(clause) == 0 {
				return nil, nil, false
			}
			if len(clause) == 1 {
				lits = append(lits, clause[0])
			}
		}
	}
	return set, clauses, true
}

func TestAfter(t *testing.T) {
	r := rand.New(rand.NewSource(1))
	conflicts, empty := 0, 0
	for range 5000 {
		vars := 1 + r.Intn(7)
		clauses := random(r, vars)
		var lits []int
		for range r.Intn(3) {
			lits = append(lits, sample.Clause(r.Intn, vars, 1)...)
		}
		units := slices.Clone(lits)
		for _, clause := range clauses {
			if len(clause) == 1 {
				units = append(units, clause[0])
			}
		}
		want, wantLeft, wantOK := afterModel(clauses, units)
		set, left, ok := formula.After(api.Cnf{Vars: vars, Clauses: clauses}, lits)
		if ok != wantOK || !sample.IsSameList(left, wantLeft) || len(set) != len(want) {
			t.Fatalf("After(%v, %v) = %v, %v, %v", clauses, lits, set, left, ok)
		}
		for _, lit := range set {
			if !want[lit] {
				t.Fatalf("After(%v, %v) has the literal %d", clauses, lit, lit)
			}
		}
		if !ok {
			conflicts++
		}
		if ok && len(left) > 0 && len(set) == 0 {
			empty++
		}
	}
	if conflicts < 1000 || empty < 300 {
		t.Errorf("%d conflicts, %d formulas without units", conflicts, empty)
	}
}

func TestKey(t *testing.T) {
	met := map[string][][]int{}
	visit := func(clauses [][]int) {
		key := formula.Key(clauses)
		if other, ok := met[key]; ok && !sample.IsSameList(clauses, other) {
			t.Fatalf("%v and %v have the same key", clauses, other)
		}
		met[key] = clauses
		if formula.Key(clauses) != key {
			t.Fatalf("the key of %v changes", clauses)
		}
	}
	sample.Formulas(visit)
	r := rand.New(rand.NewSource(2))
	for range 2000 {
		visit(random(r, 1+r.Intn(5)))
	}
	for v := 1; v <= api.MaxCnfVar; v++ {
		visit([][]int{{v}})
		visit([][]int{{-v}})
		visit([][]int{{v}, {}})
	}
	if len(met) < 60000 {
		t.Errorf("%d keys", len(met))
	}
}

func TestSize(t *testing.T) {
	if n := formula.Size([][]int{{}, {1, 2}, {-3}}); n != 6 {
		t.Errorf("%d", n)
	}
	if n := formula.Size(nil); n != 0 {
		t.Errorf("%d", n)
	}
}

func TestBusiest(t *testing.T) {
	r := rand.New(rand.NewSource(3))
	none := 0
	for range 3000 {
		vars := 1 + r.Intn(7)
		clauses := random(r, vars)
		keep := r.Intn(vars + 1)
		best, want := 0, 0
		for size := 1; size <= vars && want == 0; size++ {
			for v := 1; v <= keep; v++ {
				count := 0
				for _, clause := range clauses {
					if len(clause) == size && (slices.Contains(clause, v) || slices.Contains(clause, -v)) {
						count++
					}
				}
				if count > best {
					best, want = count, v
				}
			}
		}
		if want == 0 {
			none++
		}
		if got := formula.Busiest(clauses, keep); got != want {
			t.Fatalf("Busiest(%v, %d) = %d, not %d", clauses, keep, got, want)
		}
	}
	if none < 200 || none > 2000 {
		t.Errorf("%d formulas without kept variables", none)
	}
}
