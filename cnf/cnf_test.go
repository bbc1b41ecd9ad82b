package cnf_test

import (
	"math"
	"math/rand"
	"slices"
	"testing"

	"keyhole/api"
	"keyhole/cnf"
	"keyhole/sample"
)

func TestP30_1Examples(t *testing.T) {
	got := cnf.Canonical([][]int{{2, 1, 2}, {1, -1}, {-3}, {}, {1, 2}})
	if !isClauses(got, [][]int{{}, {1, 2}, {-3}}) {
		t.Errorf("Canonical = %v", got)
	}
	for _, c := range []struct{ clauses, want [][]int }{
		{nil, nil}, {[][]int{nil}, [][]int{{}}}, {[][]int{{}, {}}, [][]int{{}}},
		{[][]int{{1}, {-1}, {1, 2}, {-1, 2}}, [][]int{{-1}, {-1, 2}, {1}, {1, 2}}},
		{[][]int{{3, -2, 1}, {1, -2}, {1, 2}}, [][]int{{1, -2}, {1, -2, 3}, {1, 2}}},
		{[][]int{{0, 0}, {0, 5, -5}, {0, 1}, {0, -1}}, [][]int{{0}, {0, -1}, {0, 1}}},
		{[][]int{{math.MinInt, math.MinInt}, {math.MaxInt, math.MinInt}, {-math.MaxInt, 3}, {math.MaxInt, -math.MaxInt}, {1}}, [][]int{{1}, {3, -math.MaxInt}, {math.MaxInt, math.MinInt}, {math.MinInt}}},
	} {
		if got := cnf.Canonical(c.clauses); !isClauses(got, c.want) {
			t.Errorf("Canonical(%v) = %v, want %v", c.clauses, got, c.want)
		}
	}
}

func TestP30_1Canonical(t *testing.T) {
	r := rand.New(rand.NewSource(301))
	smaller := 0
	for range 20000 {
		clauses := raw(r, 4)
		got, want := cnf.Canonical(clauses), canonicalModel(clauses)
		if !isClauses(got, want) {
			t.Fatalf("Canonical(%v) = %v, want %v", clauses, got, want)
		}
		if again := cnf.Canonical(got); !isClauses(again, got) {
			t.Fatalf("Canonical(%v) = %v", got, again)
		}
		if len(got) < len(clauses) {
			smaller++
		}
	}
	if smaller < 5000 {
		t.Errorf("%d lists become shorter", smaller)
	}
}

func TestP30_1Check(t *testing.T) {
	r := rand.New(rand.NewSource(302))
	codes := map[api.Code]int{}
	for range 30000 {
		c := formula(r)
		for range r.Intn(3) {
			disturb(r, &c)
		}
		want := checkModel(c)
		if got := cnf.Check(c); got != want {
			t.Fatalf("Check(%v) = %d, want %d", c, got, want)
		}
		codes[want]++
	}
	for _, code := range []api.Code{api.OK, api.ErrArgument, api.ErrLimit, api.ErrRange, api.ErrOrder} {
		if codes[code] < 500 {
			t.Errorf("%d formulas with the code %d", codes[code], code)
		}
	}
}

// many returns so many different clauses of two literals of 400 variables, in their order.
func many(count int) [][]int {
	var clauses [][]int
	for a := 1; a < 400; a++ {
		for b := a + 1; b <= 400; b++ {
			clauses = append(clauses, []int{a, b})
		}
	}
	return clauses[:count:count]
}

func TestP30_1Order(t *testing.T) {
	for i, c := range []struct {
		c    api.Cnf
		code api.Code
	}{
		{api.Cnf{}, api.OK}, {api.Cnf{Vars: 20000, Keep: 20000, Clauses: [][]int{{-20000}, {20000}}}, api.OK},
		{api.Cnf{Vars: -1, Keep: -1}, api.ErrArgument}, {api.Cnf{Keep: 1}, api.ErrArgument}, {api.Cnf{Vars: 20001, Keep: 20002}, api.ErrArgument}, {api.Cnf{Vars: 3, Keep: -1}, api.ErrArgument}, {api.Cnf{Vars: -1}, api.ErrArgument},
		{api.Cnf{Vars: 20001}, api.ErrLimit}, {api.Cnf{Vars: 20001, Clauses: [][]int{{0}, {2, 1}}}, api.ErrLimit}, {api.Cnf{Vars: 400, Clauses: many(60000)}, api.OK}, {api.Cnf{Vars: 400, Clauses: many(60001)}, api.ErrLimit}, {api.Cnf{Vars: 1, Clauses: many(60001)}, api.ErrLimit}, {api.Cnf{Vars: 1, Keep: 2, Clauses: many(60001)}, api.ErrArgument},
		{api.Cnf{Vars: 3, Clauses: [][]int{{2, 1}, {4}}}, api.ErrRange}, {api.Cnf{Vars: 3, Clauses: [][]int{{2, 1}, {-4}}}, api.ErrRange}, {api.Cnf{Vars: 3, Clauses: [][]int{{2, 1}, {0}}}, api.ErrRange}, {api.Cnf{Vars: 3, Clauses: [][]int{{math.MinInt}}}, api.ErrRange}, {api.Cnf{Vars: 3, Clauses: [][]int{{math.MaxInt}}}, api.ErrRange},
		{api.Cnf{Vars: 3, Clauses: [][]int{{2, 1}}}, api.ErrOrder}, {api.Cnf{Vars: 3, Clauses: [][]int{{-1, 1}}}, api.ErrOrder}, {api.Cnf{Vars: 3, Clauses: [][]int{{1, 1}}}, api.ErrOrder}, {api.Cnf{Vars: 3, Clauses: [][]int{{1}, {1}}}, api.ErrOrder}, {api.Cnf{Vars: 3, Clauses: [][]int{{1, 2}, {1}}}, api.ErrOrder}, {api.Cnf{Vars: 3, Clauses: [][]int{{1}, {-1}}}, api.ErrOrder}, {api.Cnf{Vars: 3, Clauses: [][]int{{1}, {}}}, api.ErrOrder}, {api.Cnf{Vars: 3, Clauses: [][]int{{}, {}}}, api.ErrOrder},
		{api.Cnf{Vars: 3, Clauses: [][]int{{}, {-1}, {-1, 2, 3}, {1, -2}, {1, 2}, {3}}}, api.OK},
	} {
		if got := cnf.Check(c.c); got != c.code {
			t.Errorf("%d: Check = %d, want %d", i, got, c.code)
		}
	}
}

func TestP30_1Make(t *testing.T) {
	r := rand.New(rand.NewSource(303))
	codes := map[api.Code]int{}
	for range 20000 {
		vars := r.Intn(6) - 1
		keep := r.Intn(vars+3) - 1
		if r.Intn(8) == 0 {
			vars += 19998
		}
		clauses := literals(r, 5, 8)
		if r.Intn(8) == 0 {
			clauses = raw(r, 4)
		}
		var want api.Cnf
		code := checkModel(api.Cnf{Vars: vars, Keep: keep, Clauses: clauses})
		if code == api.OK || code == api.ErrOrder {
			code = api.OK
			want = api.Cnf{Vars: vars, Keep: keep, Clauses: canonicalModel(clauses)}
		}
		got, gotCode := cnf.Make(vars, keep, clauses)
		if !isCnf(got, want) || gotCode != code {
			t.Fatalf("Make(%d, %d, %v) = %v, %d, want %v, %d", vars, keep, clauses, got, gotCode, want, code)
		}
		if code == api.OK && cnf.Check(got) != api.OK {
			t.Fatalf("Make(%d, %d, %v) = %v", vars, keep, clauses, got)
		}
		codes[code]++
	}
	for _, code := range []api.Code{api.OK, api.ErrArgument, api.ErrLimit, api.ErrRange} {
		if codes[code] < 500 {
			t.Errorf("%d arguments with the code %d", codes[code], code)
		}
	}
}

// The clauses of the canonical form count, not those that are given.
func TestP30_1MakeLimit(t *testing.T) {
	twice := slices.Concat(many(60000), many(60000), [][]int{{3, -3}})
	c, code := cnf.Make(400, 5, twice)
	if !isCnf(c, api.Cnf{Vars: 400, Keep: 5, Clauses: many(60000)}) || code != api.OK {
		t.Errorf("Make = %d clauses, %d", len(c.Clauses), code)
	}
	if c, code = cnf.Make(400, 0, many(60001)); !isCnf(c, api.Cnf{}) || code != api.ErrLimit {
		t.Errorf("Make = %d clauses, %d", len(c.Clauses), code)
	}
	if c, code = cnf.Make(399, 0, many(60001)); !isCnf(c, api.Cnf{}) || code != api.ErrRange {
		t.Errorf("Make = %d clauses, %d", len(c.Clauses), code)
	}
	if c, code = cnf.Make(20001, 0, [][]int{{0}}); !isCnf(c, api.Cnf{}) || code != api.ErrLimit {
		t.Errorf("Make = %v, %d", c, code)
	}
}

func TestP30_2SameModels(t *testing.T) {
	r := rand.New(rand.NewSource(304))
	for range 2000 {
		clauses := literals(r, 5, 10)
		canonical := cnf.Canonical(clauses)
		c := api.Cnf{Vars: 5, Clauses: canonical}
		sample.Assignments(5, func(in []bool) {
			want := isModel(clauses, in)
			if got, code := cnf.Eval(c, in); got != want || code != api.OK {
				t.Fatalf("Eval(%v, %v) = %t, %d, want %t: %v", c, in, got, code, want, clauses)
			}
		})
	}
}

func TestP30_2EvalErrors(t *testing.T) {
	for i, c := range []struct {
		c    api.Cnf
		in   []bool
		v    bool
		code api.Code
	}{
		{api.Cnf{}, nil, true, api.OK}, {api.Cnf{Clauses: [][]int{{}}}, nil, false, api.OK}, {api.Cnf{Vars: 2, Clauses: [][]int{{-1, 2}}}, []bool{true, false}, false, api.OK}, {api.Cnf{Vars: 2, Clauses: [][]int{{-1, 2}}}, []bool{false, false}, true, api.OK},
		{api.Cnf{Vars: 2}, nil, false, api.ErrMismatch}, {api.Cnf{Vars: 2}, make([]bool, 3), false, api.ErrMismatch}, {api.Cnf{}, make([]bool, 1), false, api.ErrMismatch},
		{api.Cnf{Vars: -1}, nil, false, api.ErrArgument}, {api.Cnf{Vars: 20001}, nil, false, api.ErrLimit}, {api.Cnf{Vars: 1, Clauses: [][]int{{2}}}, nil, false, api.ErrRange}, {api.Cnf{Vars: 1, Clauses: [][]int{{1, 1}}}, nil, false, api.ErrOrder},
	} {
		if v, code := cnf.Eval(c.c, c.in); v != c.v || code != c.code {
			t.Errorf("%d: Eval = %t, %d", i, v, code)
		}
	}
}

func TestP30_3Examples(t *testing.T) {
	for _, c := range []struct {
		clauses [][]int
		lit     int
		want    [][]int
	}{
		{[][]int{{1, 2}, {-1, 3}, {2}}, 1, [][]int{{2}, {3}}}, {[][]int{{1, 2}, {-1, 3}, {2}}, -1, [][]int{{2}}}, {[][]int{{-1}, {-1, -1}}, 1, [][]int{{}}}, {nil, 1, nil}, {[][]int{{}}, 1, [][]int{{}}},
		{[][]int{{2, -2}, {3, 2}}, 9, [][]int{{2, 3}}}, {[][]int{{1, -1, 2}}, 1, nil}, {[][]int{{0, 1}, {2}, {1}}, 0, [][]int{{1}, {2}}},
		{[][]int{{math.MinInt, 1}, {2}, {math.MaxInt}}, math.MinInt, [][]int{{2}, {math.MaxInt}}}, {[][]int{{math.MinInt, 1}, {-math.MaxInt, 2}}, math.MaxInt, [][]int{{1, math.MinInt}, {2}}}, {[][]int{{math.MaxInt, 1}, {-math.MaxInt, 2}}, -math.MaxInt, [][]int{{1}}},
	} {
		if got := cnf.Residual(c.clauses, c.lit); !isClauses(got, c.want) {
			t.Errorf("Residual(%v, %d) = %v, want %v", c.clauses, c.lit, got, c.want)
		}
	}
}

func TestP30_3Residual(t *testing.T) {
	r := rand.New(rand.NewSource(305))
	for range 20000 {
		clauses := raw(r, 4)
		lit := []int{r.Intn(11) - 5, r.Intn(11) - 5, 0, math.MinInt, math.MaxInt, -math.MaxInt}[r.Intn(6)]
		if got, want := cnf.Residual(clauses, lit), residualModel(clauses, lit); !isClauses(got, want) {
			t.Fatalf("Residual(%v, %d) = %v, want %v", clauses, lit, got, want)
		}
	}
}

func TestP30_3Condition(t *testing.T) {
	r := rand.New(rand.NewSource(306))
	for range 3000 {
		clauses := literals(r, 4, 8)
		v := 1 + r.Intn(4)
		lit := v * (1 - 2*r.Intn(2))
		left := cnf.Residual(clauses, lit)
		if slices.Contains(cnf.Occur(left), v) {
			t.Fatalf("Residual(%v, %d) = %v", clauses, lit, left)
		}
		sample.Assignments(4, func(in []bool) {
			if in[v-1] == (lit > 0) && isModel(left, in) != isModel(clauses, in) {
				t.Fatalf("Residual(%v, %d) = %v, which is wrong for %v", clauses, lit, left, in)
			}
		})
	}
}

func TestP30_4Occur(t *testing.T) {
	for _, c := range []struct {
		clauses [][]int
		want    []int
	}{
		{nil, nil}, {[][]int{{}}, nil}, {[][]int{{1, -3}}, []int{1, 3}}, {[][]int{{3}, {-3, 3}, {-1}}, []int{1, 3}}, {[][]int{{0, 20000}, {-20001, 20001, -19999}}, []int{19999, 20000}}, {[][]int{{-20000, math.MinInt, math.MaxInt, -math.MaxInt}}, []int{20000}},
	} {
		if got := cnf.Occur(c.clauses); !slices.Equal(got, c.want) {
			t.Errorf("Occur(%v) = %v, want %v", c.clauses, got, c.want)
		}
	}
	r := rand.New(rand.NewSource(307))
	for range 5000 {
		clauses := raw(r, 9)
		var want []int
		for v := 1; v <= 20000; v++ {
			if v > 9 && v < 19999 {
				continue
			}
			for _, lit := range slices.Concat(clauses...) {
				if (lit == v || lit == -v) && !slices.Contains(want, v) {
					want = append(want, v)
				}
			}
		}
		if got := cnf.Occur(clauses); !slices.Equal(got, want) {
			t.Fatalf("Occur(%v) = %v, want %v", clauses, got, want)
		}
	}
}

// TestMemory checks that arguments stay as they are, and that results share no memory with them or among themselves.
func TestMemory(t *testing.T) {
	r := rand.New(rand.NewSource(308))
	spoil := func(clauses [][]int) {
		for _, clause := range clauses {
			for i := range clause {
				clause[i] = 77
			}
			_ = append(clause, 78)
		}
		for _, lit := range slices.Concat(clauses...) {
			if lit != 77 {
				t.Fatalf("clauses share memory: %v", clauses)
			}
		}
	}
	for range 2000 {
		c := formula(r)
		clauses := c.Clauses
		if r.Intn(2) == 0 {
			clauses = literals(r, 6, 8)
		}
		var twin [][]int
		for _, clause := range clauses {
			twin = append(twin, slices.Clone(clause))
		}
		made, _ := cnf.Make(6, 0, clauses)
		spoil(made.Clauses)
		spoil(cnf.Canonical(clauses))
		spoil(cnf.Residual(clauses, 1))
		cnf.Occur(clauses)
		cnf.Check(api.Cnf{Vars: 6, Clauses: clauses})
		cnf.Eval(api.Cnf{Vars: 6, Clauses: clauses}, make([]bool, 6))
		cnf.Print(api.Cnf{Vars: 6, Clauses: clauses})
		parsed, _ := cnf.Parse(printModel(c))
		spoil(parsed.Clauses)
		if !isClauses(clauses, twin) {
			t.Fatalf("%v has become %v", twin, clauses)
		}
	}
}
