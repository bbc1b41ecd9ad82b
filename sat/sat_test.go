package sat_test

import (
	"fmt"
	"math"
	"math/rand"
	"slices"
	"testing"

	"keyhole/api"
	"keyhole/cnf"
	"keyhole/sample"
	"keyhole/sat"
)

func TestP31_1Examples(t *testing.T) {
	for i, c := range []struct {
		c        api.Cnf
		lits     []int
		want     []int
		conflict bool
	}{
		{first(), nil, nil, false}, {first(), []int{-2}, nil, true}, {first(), []int{1}, []int{1, 2}, false}, {none(), nil, nil, false}, {none(), []int{2}, nil, true},
		{api.Cnf{}, nil, nil, false}, {made(0, nil), nil, nil, true}, {made(3, nil, []int{1}), []int{2}, nil, true}, {made(3), []int{3, -1, 3, -1}, []int{-1, 3}, false}, {made(3), []int{3, -1, -3}, nil, true},
		{made(4, []int{-1}, []int{1, 2}, []int{-2, 3, 4}), nil, []int{-1, 2}, false}, {made(4, []int{-1}, []int{1, 2}, []int{-2, 3, 4}), []int{-4}, []int{-1, 2, 3, -4}, false}, {made(4, []int{-1}, []int{1, 2}, []int{-2, 3, 4}), []int{1}, nil, true}, {made(2, []int{1}, []int{-1}), nil, nil, true},
	} {
		got, conflict, code := sat.Propagate(c.c, c.lits)
		if !slices.Equal(got, c.want) || conflict != c.conflict || code != api.OK {
			t.Errorf("%d: Propagate = %v, %t, %d", i, got, conflict, code)
		}
	}
}

func TestP31_1Propagate(t *testing.T) {
	conflicts, longer := 0, 0
	each(t, 8000, 8, func(r *rand.Rand, c api.Cnf) {
		var lits []int
		for range r.Intn(4) {
			lits = append(lits, clause(r, c.Vars, 1)...)
		}
		want, wantConflict := propagateModel(c.Clauses, lits)
		got, conflict, code := sat.Propagate(c, lits)
		if !slices.Equal(got, want) || conflict != wantConflict || code != api.OK {
			t.Fatalf("Propagate(%v, %v) = %v, %t, %d, want %v, %t", c, lits, got, conflict, code, want, wantConflict)
		}
		if conflict {
			conflicts++
		} else if len(got) > len(lits) {
			longer++
		}
	})
	if conflicts < 1000 || longer < 700 {
		t.Errorf("%d conflicts, %d longer lists", conflicts, longer)
	}
}

// all functions return ErrArgument for formulas that are not valid.
func TestP31_1Errors(t *testing.T) {
	for i, c := range []api.Cnf{{Vars: -1}, {Keep: 1}, {Vars: 20001}, {Vars: 1, Clauses: [][]int{{2}}}, {Vars: 1, Clauses: [][]int{{0}}}, {Vars: 1, Clauses: [][]int{{1}, {-1}}}, {Vars: 2, Clauses: [][]int{{2, 1}}}, {Vars: 1, Clauses: [][]int{{1, 1}}}, {Vars: 1, Clauses: [][]int{{-1, 1}}}} {
		l, conflict, code1 := sat.Propagate(c, []int{0})
		in, found, code2 := sat.Solve(c)
		lemmas, code3 := sat.Refute(c)
		refuted, code4 := sat.Refutes(c, [][]int{{}})
		backbone, code5 := sat.Backbone(c)
		core, code6 := sat.Core(c)
		for j, code := range []api.Code{code1, code2, code3, code4, code5, code6} {
			if code != api.ErrArgument {
				t.Errorf("%d: function %d returns %d", i, j, code)
			}
		}
		if l != nil || conflict || in != nil || found || lemmas != nil || refuted || backbone != nil || core != nil {
			t.Errorf("%d: results are not zero", i)
		}
	}
	for _, lits := range [][]int{{0}, {3}, {-3}, {1, 0}, {1, -1, 3}, {math.MinInt}, {math.MaxInt}, {2, 2, -math.MaxInt}} {
		if l, conflict, code := sat.Propagate(first(), lits); l != nil || conflict || code != api.ErrRange {
			t.Errorf("Propagate(%v) = %v, %t, %d", lits, l, conflict, code)
		}
		if l, conflict, code := sat.Propagate(made(2, nil), lits); l != nil || conflict || code != api.ErrRange {
			t.Errorf("Propagate(%v) = %v, %t, %d", lits, l, conflict, code)
		}
	}
}

func TestP31_2Examples(t *testing.T) {
	for i, c := range []struct {
		c     api.Cnf
		want  []bool
		found bool
	}{
		{first(), []bool{true, true}, true}, {none(), nil, false}, {api.Cnf{}, nil, true}, {made(0, nil), nil, false}, {made(3), make([]bool, 3), true}, {made(3, []int{1, 2, 3}), []bool{false, false, true}, true}, {made(3, []int{1, 2}, []int{-2, -3}, []int{3}), []bool{true, false, true}, true},
	} {
		got, found, code := sat.Solve(c.c)
		if !slices.Equal(got, c.want) || found != c.found || code != api.OK {
			t.Errorf("%d: Solve = %v, %t, %d", i, got, found, code)
		}
	}
}

func TestP31_2Solve(t *testing.T) {
	without := 0
	each(t, 8000, 9, func(r *rand.Rand, c api.Cnf) {
		all := models(c.Vars, c.Clauses)
		got, found, code := sat.Solve(c)
		if code != api.OK || found != (len(all) > 0) || found && !slices.Equal(got, all[0]) || !found && got != nil {
			t.Fatalf("Solve(%v) = %v, %t, %d", c, got, found, code)
		}
		if !found {
			without++
		}
	})
	if without < 2000 || without > 6500 {
		t.Errorf("%d formulas without a model", without)
	}
}

// leastOf returns the least model, which is looked for among all assignments.
func leastOf(c api.Cnf) ([]bool, bool) {
	in := make([]bool, c.Vars)
	for n := range 1 << c.Vars {
		for v := range in {
			in[v] = n>>(c.Vars-1-v)&1 == 1
		}
		if isModel(c.Clauses, in) {
			return in, true
		}
	}
	return nil, false
}

// TestP31_2Hard has formulas for which many clauses are learned, and some are forgotten again.
func TestP31_2Hard(t *testing.T) {
	r := rand.New(rand.NewSource(312))
	var list []api.Cnf
	for i := range 12 {
		list = append(list, parities(r, 17, 15, 8, i%2 == 0), parities(r, 16, 20+i, 3, i%2 == 0))
	}
	list = append(list, pigeons(5, 4), pigeons(4, 4), pigeons(3, 5), made(12, sample.Everything(12)...), made(12, sample.Everything(12)[:4095]...), made(12, sample.Everything(12)[1:]...))
	found := 0
	for i, c := range list {
		want, wantFound := leastOf(c)
		got, ok, code := sat.Solve(c)
		if !slices.Equal(got, want) || ok != wantFound || code != api.OK {
			t.Errorf("%d: Solve = %v, %t, %d, want %v, %t", i, got, ok, code, want, wantFound)
		}
		if ok {
			found++
		}
	}
	if found < 12 || found > 24 {
		t.Errorf("%d of %d have models", found, len(list))
	}
}

// checkRefutation checks what Refute returns, and whether Refutes accepts it.
func checkRefutation(t *testing.T, c api.Cnf, hasModel bool) [][]int {
	t.Helper()
	lemmas, code := sat.Refute(c)
	if hasModel {
		if lemmas != nil || code != api.ErrMissing {
			t.Fatalf("Refute(%d clauses) = %d lemmas, %d", len(c.Clauses), len(lemmas), code)
		}
		return nil
	}
	if ok, refutesCode := sat.Refutes(c, lemmas); !ok || code != api.OK || refutesCode != api.OK {
		t.Fatalf("Refute(%d clauses) = %d lemmas, %d; %t, %d", len(c.Clauses), len(lemmas), code, ok, refutesCode)
	}
	return lemmas
}

func TestP31_3Refute(t *testing.T) {
	long := 0
	each(t, 3000, 9, func(r *rand.Rand, c api.Cnf) {
		lemmas := checkRefutation(t, c, len(models(c.Vars, c.Clauses)) > 0)
		if lemmas != nil && !refutesModel(c, lemmas) {
			t.Fatalf("Refute(%v) = %v", c, lemmas)
		}
		if len(lemmas) > 3 {
			long++
		}
	})
	if long < 200 {
		t.Errorf("%d long refutations", long)
	}
}

// TestP31_3Hard has formulas of 24 variables at most, for which no limit may be met.
func TestP31_3Hard(t *testing.T) {
	r := rand.New(rand.NewSource(313))
	list := []api.Cnf{pigeons(5, 4), pigeons(6, 4), made(11, sample.Everything(11)...), parities(r, 24, 60, 3, false), parities(r, 24, 40, 5, false), parities(r, 24, 40, 8, false)}
	longest := 0
	for _, c := range list {
		longest = max(longest, len(checkRefutation(t, c, false)))
	}
	if longest < 3000 {
		t.Errorf("the longest refutation has %d lemmas", longest)
	}
}

func TestP31_4Examples(t *testing.T) {
	// 1 is true from the beginning; with it, the other clauses have no model.
	unit := made(3, []int{1}, []int{-1, 2, 3}, []int{-1, -2, 3}, []int{2, -3}, []int{-2, -3})
	for i, c := range []struct {
		c      api.Cnf
		lemmas [][]int
		want   bool
	}{
		{none(), [][]int{{2}, {}}, true}, {none(), [][]int{{}}, false}, {none(), [][]int{{2}}, false}, {none(), nil, false}, {none(), [][]int{}, false}, {none(), [][]int{{-1}, {}}, true}, {none(), [][]int{{1}, {2}, {}}, true},
		{made(0, nil), [][]int{{}}, true}, {made(0, nil), nil, false}, {api.Cnf{}, [][]int{{}}, false}, {made(0, nil), [][]int{{}, {}}, true}, {made(0, nil), [][]int{{1}, {}}, false},
		{none(), [][]int{{2}, {}, {1}}, false}, {none(), [][]int{{2}, {}, {1}, {}}, true}, {none(), [][]int{{2}, {}, {3}, {}}, false}, {none(), [][]int{{2}, {}, {0}, {}}, false}, {none(), [][]int{{2}, {}, {2, 1}, {}}, false}, {none(), [][]int{{2}, {}, {1, 1}, {}}, false}, {none(), [][]int{{2}, {}, {-1, 1}, {}}, false}, {none(), [][]int{{2}, {}, {-1, 2}, {}}, true},
		{none(), [][]int{{2}, {math.MinInt}, {}}, false}, {none(), [][]int{{2}, {math.MaxInt}, {}}, false}, {none(), [][]int{{2}, {1, -3}, {}}, false}, {first(), [][]int{{1}, {2}, {}}, false}, {first(), [][]int{{2}, {1}}, false},
		{unit, [][]int{{3}, {}}, true}, {unit, [][]int{{1, 3}, {3}, {}}, true}, {unit, [][]int{{1}, {1, -2}, {3}, {}}, true}, {unit, [][]int{{-1, 3}, {3}, {}}, true}, {unit, [][]int{{-1}, {}}, false}, {unit, [][]int{{-1, 2, 3}, {3}, {}}, true},
	} {
		if got, code := sat.Refutes(c.c, c.lemmas); got != c.want || code != api.OK {
			t.Errorf("%d: Refutes(%v) = %t, %d", i, c.lemmas, got, code)
		}
	}
}

// lemmasFor returns lemmas that may be a refutation: those of a real one with changes, or any.
func lemmasFor(r *rand.Rand, c api.Cnf) [][]int {
	lemmas, _ := sat.Refute(c)
	if len(lemmas) == 0 || r.Intn(4) == 0 {
		for range r.Intn(5) {
			lemma := clause(r, c.Vars, r.Intn(min(c.Vars, 3)+1))
			slices.SortFunc(lemma, func(a, b int) int { return max(a, -a) - max(b, -b) })
			lemmas = append(lemmas, lemma)
		}
		lemmas = append(lemmas, nil)
	}
	for range r.Intn(3) {
		i := r.Intn(len(lemmas))
		switch r.Intn(5) {
		case 0:
			lemmas = slices.Delete(lemmas, i, i+1)
		case 1:
			lemmas = slices.Insert(lemmas, i, clause(r, c.Vars, 1))
		case 2:
			lemmas = append(lemmas, slices.Clone(lemmas[i]))
		default:
			if n := len(lemmas[i]); n > 0 {
				k := r.Intn(n)
				lemmas[i][k] = []int{-lemmas[i][k], lemmas[i][k] + 1, lemmas[i][r.Intn(n)], 0}[r.Intn(4)]
			}
		}
		if len(lemmas) == 0 {
			break
		}
	}
	return lemmas
}

func TestP31_4Refutes(t *testing.T) {
	accepted, rejected := 0, 0
	each(t, 8000, 6, func(r *rand.Rand, c api.Cnf) {
		for range 3 {
			lemmas := lemmasFor(r, c)
			want := refutesModel(c, lemmas)
			got, code := sat.Refutes(c, lemmas)
			if got != want || code != api.OK {
				t.Fatalf("Refutes(%v, %v) = %t, %d, want %t", c, lemmas, got, code, want)
			}
			if got {
				accepted++
			} else if len(lemmas) > 2 {
				rejected++
			}
		}
	})
	if accepted < 3000 || rejected < 3000 {
		t.Errorf("%d accepted, %d rejected", accepted, rejected)
	}
}

func TestP31_5Examples(t *testing.T) {
	for i, c := range []struct {
		c        api.Cnf
		backbone []int
		code     api.Code
		core     []int
		coreCode api.Code
	}{
		{first(), []int{1, 2}, api.OK, nil, api.ErrMissing}, {none(), nil, api.ErrMissing, []int{0, 1, 2, 3}, api.OK}, {api.Cnf{}, nil, api.OK, nil, api.ErrMissing}, {made(0, nil), nil, api.ErrMissing, []int{0}, api.OK}, {made(3, []int{-2}, []int{1, 2}), []int{1, -2}, api.OK, nil, api.ErrMissing},
		{made(2, nil, []int{1}, []int{-1}), nil, api.ErrMissing, []int{1, 2}, api.OK}, {made(3, []int{-1}, []int{1}, []int{-1, 2}, []int{-2, 3}, []int{-3}), nil, api.ErrMissing, []int{1, 2, 3, 4}, api.OK},
	} {
		backbone, code := sat.Backbone(c.c)
		if !slices.Equal(backbone, c.backbone) || code != c.code {
			t.Errorf("%d: Backbone = %v, %d", i, backbone, code)
		}
		core, code := sat.Core(c.c)
		if !slices.Equal(core, c.core) || code != c.coreCode {
			t.Errorf("%d: Core = %v, %d", i, core, code)
		}
	}
}

func TestP31_5Backbone(t *testing.T) {
	some := 0
	each(t, 8000, 9, func(r *rand.Rand, c api.Cnf) {
		all := models(c.Vars, c.Clauses)
		got, code := sat.Backbone(c)
		if len(all) == 0 {
			if got != nil || code != api.ErrMissing {
				t.Fatalf("Backbone(%v) = %v, %d", c, got, code)
			}
			return
		}
		if want := backboneModel(c.Vars, all); !slices.Equal(got, want) || code != api.OK {
			t.Fatalf("Backbone(%v) = %v, %d, want %v", c, got, code, want)
		}
		if len(got) > 0 && len(got) < c.Vars {
			some++
		}
	})
	if some < 800 {
		t.Errorf("%d formulas with some literals", some)
	}
}

func TestP31_5HardBackbone(t *testing.T) {
	r := rand.New(rand.NewSource(314))
	for i := range 10 {
		c := parities(r, 15, 11+i/2, []int{3, 7}[i%2], true)
		want := backboneModel(c.Vars, models(c.Vars, c.Clauses))
		if got, code := sat.Backbone(c); !slices.Equal(got, want) || code != api.OK {
			t.Errorf("%d: Backbone = %v, %d, want %v", i, got, code, want)
		}
	}
}

// hasModel returns a function that looks for a model among all assignments.
func hasModel(vars int) func(clauses [][]int) bool {
	return func(clauses [][]int) bool {
		_, found := leastOf(api.Cnf{Vars: vars, Clauses: clauses})
		return found
	}
}

func TestP31_5Core(t *testing.T) {
	some := 0
	each(t, 4000, 7, func(r *rand.Rand, c api.Cnf) {
		got, code := sat.Core(c)
		if hasModel(c.Vars)(c.Clauses) {
			if got != nil || code != api.ErrMissing {
				t.Fatalf("Core(%v) = %v, %d", c, got, code)
			}
			return
		}
		if want := coreModel(c.Clauses, hasModel(c.Vars)); !slices.Equal(got, want) || code != api.OK {
			t.Fatalf("Core(%v) = %v, %d, want %v", c, got, code, want)
		}
		if len(got) > 3 && len(got) < len(c.Clauses) {
			some++
		}
	})
	if some < 1000 {
		t.Errorf("%d cores of several clauses", some)
	}
}

// TestP31_5HardCore has formulas for which all assignments must be looked at, as searches would take too long.
func TestP31_5HardCore(t *testing.T) {
	if core, code := sat.Core(made(12, sample.Everything(12)...)); !slices.Equal(core, sample.Range(0, 1<<12, 1)) || code != api.OK {
		t.Errorf("Core = %d clauses, %d", len(core), code)
	}
	// The variables are not the first ones, and there are many others. Of the parities of three pairs, each but the last one is needed.
	var clauses [][]int
	for i := range 10 {
		clauses = append(clauses, sample.Parity(i%2, 3*i+50, 3*i+53)...)
	}
	clauses = append(clauses, sample.Parity(0, 50, 80)...)
	c := made(20000, clauses...)
	core, code := sat.Core(c)
	if want := coreModel(c.Clauses, func(clauses [][]int) bool {
		_, found, _ := sat.Solve(made(20000, clauses...))
		return found
	}); !slices.Equal(core, want) || code != api.OK {
		t.Errorf("Core = %v, %d, want %v", core, code, want)
	}
}

func TestP31_6Soundness(t *testing.T) {
	accepted := 0
	each(t, 6000, 5, func(r *rand.Rand, c api.Cnf) {
		lemmas := lemmasFor(r, c)
		if ok, _ := sat.Refutes(c, lemmas); ok {
			accepted++
			if hasModel(c.Vars)(c.Clauses) {
				t.Fatalf("Refutes(%v, %v)", c, lemmas)
			}
		}
	})
	if accepted < 1000 {
		t.Errorf("%d accepted", accepted)
	}
}

func TestP31_7Propagation(t *testing.T) {
	each(t, 3000, 7, func(r *rand.Rand, c api.Cnf) {
		lits := clause(r, c.Vars, r.Intn(min(3, c.Vars)+1))
		set, conflict, _ := sat.Propagate(c, lits)
		for _, in := range models(c.Vars, c.Clauses) {
			holds := func(lit int) bool { return in[max(lit, -lit)-1] == (lit > 0) }
			all := !slices.ContainsFunc(lits, func(lit int) bool { return !holds(lit) })
			if all && (conflict || slices.ContainsFunc(set, func(lit int) bool { return !holds(lit) })) {
				t.Fatalf("Propagate(%v, %v) = %v, %t, but %v is a model", c, lits, set, conflict, in)
			}
		}
		if again, other, _ := sat.Propagate(c, set); !conflict && (other || !slices.Equal(again, set)) {
			t.Fatalf("Propagate(%v, %v) = %v, %t", c, set, again, other)
		}
	})
}

func TestP31_7More(t *testing.T) {
	lost := 0
	each(t, 3000, 7, func(r *rand.Rand, c api.Cnf) {
		more := made(c.Vars, append(slices.Clone(c.Clauses), clause(r, c.Vars, min(2, c.Vars)))...)
		_, before, _ := sat.Solve(c)
		in, after, _ := sat.Solve(more)
		if after && (!before || !isModel(c.Clauses, in)) {
			t.Fatalf("%v has the model %v, %v has none", more, in, c)
		}
		if before && !after {
			lost++
		}
	})
	if lost < 50 {
		t.Errorf("%d formulas lose their models", lost)
	}
}

func TestP31_7Core(t *testing.T) {
	each(t, 1500, 8, func(r *rand.Rand, c api.Cnf) {
		core, code := sat.Core(c)
		if code != api.OK {
			return
		}
		part := func(without int) [][]int {
			var clauses [][]int
			for _, i := range core {
				if i != without {
					clauses = append(clauses, c.Clauses[i])
				}
			}
			return clauses
		}
		if hasModel(c.Vars)(part(-1)) {
			t.Fatalf("Core(%v) = %v has a model", c, core)
		}
		for _, i := range core {
			if !hasModel(c.Vars)(part(i)) {
				t.Fatalf("Core(%v) = %v does not need %d", c, core, i)
			}
		}
	})
}

// TestP31_2Large has formulas of more variables than those for which no limit may be met: what is returned must be right all the same.
func TestP31_2Large(t *testing.T) {
	var chain [][]int
	for v := 1; v < 20000; v++ {
		chain = append(chain, []int{-v, v + 1}, []int{v, -v - 1})
	}
	equal := made(20000, chain...)
	if in, found, code := sat.Solve(equal); code == api.OK && (!found || slices.Contains(in, true)) {
		t.Errorf("Solve = %t, %d", found, code)
	}
	one := made(20000, append(chain, []int{777})...)
	if in, found, code := sat.Solve(one); code == api.OK && (!found || slices.Contains(in, false)) {
		t.Errorf("Solve = %t, %d", found, code)
	}
	if l, conflict, code := sat.Propagate(equal, []int{-777}); len(l) != 20000 || l[0] != -1 || l[19999] != -20000 || conflict || code != api.OK {
		t.Errorf("Propagate = %d literals, %t, %d", len(l), conflict, code)
	}
	if l, code := sat.Backbone(one); code == api.OK && (len(l) != 20000 || l[9] != 10) {
		t.Errorf("Backbone = %d literals, %d", len(l), code)
	}
	if l, code := sat.Backbone(equal); code == api.OK && len(l) > 0 || code != api.OK && code != api.ErrLimit {
		t.Errorf("Backbone = %d literals, %d", len(l), code)
	}
	broken := made(20000, append(chain, []int{777}, []int{-19000})...)
	if lemmas, code := sat.Refute(broken); code == api.OK {
		if ok, code := sat.Refutes(broken, lemmas); !ok || code != api.OK {
			t.Errorf("Refutes = %t, %d", ok, code)
		}
	}
	if core, code := sat.Core(broken); code == api.OK && len(core) != 19000-777+2 || code != api.OK && code != api.ErrLimit {
		t.Errorf("Core = %d clauses, %d", len(core), code)
	}
}

// TestP31_5Large compares formulas of blocks of variables, which have nothing to do with one another, with their blocks.
func TestP31_5Large(t *testing.T) {
	r := rand.New(rand.NewSource(315))
	answered := 0
	for range 60 {
		var clauses [][]int
		var least []bool
		var common []int
		for block := range 10 {
			c := formula(r, 6)
			for len(models(c.Vars, c.Clauses)) == 0 {
				c = formula(r, 6)
			}
			c.Vars = 6
			all := models(6, c.Clauses)
			least = append(least, all[0]...)
			move := func(lit int) int { return max(-1, min(1, lit)) * (max(lit, -lit) + 6*block) }
			for _, lit := range backboneModel(6, all) {
				common = append(common, move(lit))
			}
			for _, clause := range c.Clauses {
				var moved []int
				for _, lit := range clause {
					moved = append(moved, move(lit))
				}
				clauses = append(clauses, moved)
			}
		}
		c := made(60, clauses...)
		in, found, code := sat.Solve(c)
		got, backboneCode := sat.Backbone(c)
		if code == api.OK && (!found || !slices.Equal(in, least)) || backboneCode == api.OK && !slices.Equal(got, common) {
			t.Fatalf("Solve = %v, %t, want %v; Backbone = %v, want %v", in, found, least, got, common)
		}
		if code == api.OK && backboneCode == api.OK {
			answered++
		}
		if _, code := sat.Core(c); code != api.ErrMissing {
			t.Fatalf("Core = %d", code)
		}
	}
	if answered < 60 {
		t.Errorf("%d answers", answered)
	}
}

// TestP31_5LargeCore has a core among many clauses of many variables.
func TestP31_5LargeCore(t *testing.T) {
	r := rand.New(rand.NewSource(316))
	answered := 0
	for range 20 {
		var clauses [][]int
		for range 60 {
			clauses = append(clauses, clause(r, 60, 3))
		}
		for i := range 8 {
			clauses = append(clauses, sample.Parity(r.Intn(2), 7*i+1, 7*((i+1)%8)+1)...)
			clauses = append(clauses, sample.Parity(r.Intn(2), 5*i+2, 5*((i+1)%8)+2)...)
		}
		c := made(60, clauses...)
		solve := func(clauses [][]int) bool {
			_, found, code := sat.Solve(made(60, clauses...))
			if code != api.OK {
				t.Fatalf("Solve = %d", code)
			}
			return found
		}
		if solve(c.Clauses) {
			continue
		}
		core, code := sat.Core(c)
		if code == api.OK {
			answered++
			if want := coreModel(c.Clauses, solve); !slices.Equal(core, want) {
				t.Fatalf("Core = %v, want %v", core, want)
			}
		}
	}
	if answered < 5 {
		t.Errorf("%d answers", answered)
	}
}

// TestP31_2Pigeons has a formula that may well take too long.
func TestP31_2Pigeons(t *testing.T) {
	c := pigeons(12, 11)
	if in, found, code := sat.Solve(c); in != nil || found || code != api.OK && code != api.ErrLimit {
		t.Errorf("Solve = %t, %d", found, code)
	}
	if lemmas, code := sat.Refute(c); code != api.OK && (code != api.ErrLimit || lemmas != nil) {
		t.Errorf("Refute = %d lemmas, %d", len(lemmas), code)
	}
	if l, code := sat.Backbone(c); l != nil || code != api.ErrMissing && code != api.ErrLimit {
		t.Errorf("Backbone = %v, %d", l, code)
	}
	if core, code := sat.Core(c); code != api.OK && (code != api.ErrLimit || core != nil) {
		t.Errorf("Core = %d clauses, %d", len(core), code)
	}
}

// TestMemory checks that arguments stay as they are, that results share no memory, and that calls do not depend on one another.
func TestMemory(t *testing.T) {
	each(t, 800, 6, func(r *rand.Rand, c api.Cnf) {
		twin, _ := cnf.Make(c.Vars, c.Keep, c.Clauses)
		lits := []int{1, -1 - r.Intn(c.Vars), 1}
		twinLits := slices.Clone(lits)
		calls := func() string {
			l, conflict, _ := sat.Propagate(c, lits)
			in, found, _ := sat.Solve(c)
			lemmas, _ := sat.Refute(c)
			backbone, _ := sat.Backbone(c)
			core, _ := sat.Core(c)
			text := fmt.Sprint(l, conflict, in, found, lemmas, backbone, core)
			other := slices.Clone(lemmas)
			for i := range other {
				other[i] = slices.Clone(other[i])
			}
			sat.Refutes(c, lemmas)
			if !isClauses(lemmas, other) {
				t.Fatalf("the lemmas %v have become %v", other, lemmas)
			}
			for i := range lemmas {
				for k := range lemmas[i] {
					lemmas[i][k] = 99
				}
				_ = append(lemmas[i], 98)
			}
			for _, lit := range slices.Concat(lemmas...) {
				if lit != 99 {
					t.Fatalf("lemmas share memory: %v", lemmas)
				}
			}
			for i := range l {
				l[i] = 99
			}
			for i := range backbone {
				backbone[i] = 99
			}
			return text
		}
		if one, two := calls(), calls(); one != two {
			t.Fatalf("%v: first %s, then %s", c, one, two)
		}
		if !isClauses(c.Clauses, twin.Clauses) || !slices.Equal(lits, twinLits) {
			t.Fatalf("%v has become %v", twin, c)
		}
	})
}
