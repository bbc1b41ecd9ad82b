package ddnnf_test

import (
	"math/rand"
	"slices"
	"testing"

	"keyhole/api"
	"keyhole/bdd"
	"keyhole/cnf"
	"keyhole/counter"
	"keyhole/ddnnf"
	"keyhole/sample"
)

// made returns the formula with clauses, which are in any order, in which all variables are kept.
func made(vars int, clauses ...[]int) api.Cnf {
	c, code := cnf.Make(vars, vars, clauses)
	if code != api.OK {
		panic(code)
	}
	return c
}

// wantModels reports an error if Compile does not return a valid normal form that has the models of a formula.
func wantModels(t *testing.T, c api.Cnf) {
	t.Helper()
	d, code := ddnnf.Compile(c)
	if code != api.OK || d.Vars != c.Vars || checkModel(d) != api.OK {
		t.Fatalf("Compile of %d clauses = %d, %d", len(c.Clauses), code, ddnnf.Check(d))
	}
	sample.Assignments(c.Vars, func(in []bool) {
		if value, _ := ddnnf.Eval(d, in); value != sample.IsModel(c.Clauses, in) {
			t.Fatalf("Compile(%v) = %v, which has the value %v for %v", c, d, value, in)
		}
	})
}

func TestP33_7Compile(t *testing.T) {
	sample.Formulas(func(clauses [][]int) {
		wantModels(t, api.Cnf{Vars: 2, Keep: 2, Clauses: clauses})
	})
	r := rand.New(rand.NewSource(1))
	for range 1500 {
		vars := r.Intn(8)
		longest := 1 + r.Intn(4)
		var clauses [][]int
		for range r.Intn(3*vars + 2) {
			clauses = append(clauses, sample.Clause(r.Intn, vars, min(vars, 1+r.Intn(longest+1))))
		}
		wantModels(t, made(vars, clauses...))
	}
}

// TestP33_7Twelve is about formulas of 12 variables, which are always compiled.
func TestP33_7Twelve(t *testing.T) {
	r := rand.New(rand.NewSource(2))
	all := sample.Everything(12)
	list := []api.Cnf{
		made(12), made(12, all...), made(12, all[1:]...), made(12, all[:4095]...), made(12, sample.Pigeons(4, 3)...), made(12, sample.Pigeons(3, 4)...),
		made(12, sample.Parity(1, sample.Range(1, 13, 1)...)...),
	}
	var some [][]int
	for _, clause := range all {
		if r.Intn(2) == 0 {
			some = append(some, clause)
		}
	}
	list = append(list, made(12, some...))
	for _, size := range []int{3, 4, 5, 6, 8, 10} {
		var clauses [][]int
		for range api.MaxClause {
			clause := sample.Clause(r.Intn, 12, size)
			clause[0] = max(clause[0], -clause[0])
			clauses = append(clauses, clause)
			if len(clauses) == 60 && size < 6 {
				list = append(list, made(12, clauses...))
			}
		}
		list = append(list, made(12, clauses...))
	}
	for _, c := range list {
		d, code := ddnnf.Compile(c)
		if code != api.OK || ddnnf.Check(d) != api.OK {
			t.Fatalf("%d clauses: %d, %d", len(c.Clauses), code, ddnnf.Check(d))
		}
		n, _ := counter.Count(c)
		if m, code := ddnnf.Count(d); n != m || code != api.OK {
			t.Fatalf("%d clauses: %d and %d models", len(c.Clauses), n, m)
		}
		for range 500 {
			in := make([]bool, 12)
			for i := range in {
				in[i] = r.Intn(2) == 0
			}
			if got, _ := ddnnf.Eval(d, in); got != sample.IsModel(c.Clauses, in) {
				t.Fatalf("%d clauses: %v has the value %v", len(c.Clauses), in, got)
			}
		}
		for n := range min(n, 20) {
			in, _ := ddnnf.Nth(d, n)
			if !sample.IsModel(c.Clauses, in) {
				t.Fatalf("%d clauses: %v is no model", len(c.Clauses), in)
			}
		}
	}
}

// TestP33_7More is about formulas of more variables that are not hard.
func TestP33_7More(t *testing.T) {
	r := rand.New(rand.NewSource(3))
	for vars := 13; vars <= 40; vars++ {
		var clauses [][]int
		for range vars {
			clauses = append(clauses, sample.Clause(r.Intn, vars, 2+r.Intn(2)))
		}
		c := made(vars, clauses...)
		want, code := counter.Count(c)
		d, code2 := ddnnf.Compile(c)
		if code != api.OK || code2 != api.OK || ddnnf.Check(d) != api.OK {
			t.Fatalf("%v: %d, %d, %d", c, code, code2, ddnnf.Check(d))
		}
		if n, _ := ddnnf.Count(d); n != want {
			t.Fatalf("%v has %d models, not %d", c, n, want)
		}
		for k := range 20 {
			in, code := ddnnf.Nth(d, want/20*k)
			if want > 0 && (code != api.OK || !sample.IsModel(c.Clauses, in)) || want == 0 && code != api.ErrRange {
				t.Fatalf("%v has the model %v, %d", c, in, code)
			}
		}
	}
}

func TestP33_7Sums(t *testing.T) {
	for _, count := range []int{1, 6, 7, 20} {
		d, code := ddnnf.Compile(made(2*count, sample.Sums(count)...))
		if n, code2 := ddnnf.Count(d); n != 1<<(count-1) || code != api.OK || code2 != api.OK || len(d.Parts) > 20*count {
			t.Errorf("%d models in %d parts: %d, %d", n, len(d.Parts), code, code2)
		}
	}
}

func TestP33_7Errors(t *testing.T) {
	r := rand.New(rand.NewSource(4))
	var clauses [][]int
	for range 100 {
		clauses = append(clauses, sample.Clause(r.Intn, 40, 6))
	}
	wide := made(41, []int{1})
	narrow := wide
	narrow.Keep = 40
	for _, c := range []struct {
		c    api.Cnf
		want api.Code
	}{
		{api.Cnf{Vars: -1}, api.ErrArgument},
		{api.Cnf{Vars: 20001}, api.ErrLimit},
		{api.Cnf{Vars: 2, Keep: 1, Clauses: [][]int{{3}}}, api.ErrRange},
		{api.Cnf{Vars: 2, Keep: 1, Clauses: [][]int{{2}, {1}}}, api.ErrOrder},
		{api.Cnf{Vars: 2, Keep: 1, Clauses: [][]int{{1}, {2}}}, api.ErrMismatch},
		{narrow, api.ErrMismatch},
		{wide, api.ErrLimit},
		{made(40, clauses...), api.ErrLimit},
	} {
		if d, code := ddnnf.Compile(c.c); code != c.want || !isSame(d, api.Dnnf{}) {
			t.Errorf("Compile = %d parts, %d, not %d", len(d.Parts), code, c.want)
		}
	}
}

func TestP33_8OfBdd(t *testing.T) {
	r := rand.New(rand.NewSource(5))
	for _, value := range []bool{false, true} {
		b, _ := bdd.Const(7, value)
		want := never
		if value {
			want = always
		}
		if d, code := ddnnf.OfBdd(b); !isSame(d, api.Dnnf{Vars: 7, Parts: []api.Part{want}}) || code != api.OK {
			t.Errorf("%v, %d", d, code)
		}
	}
	for range 500 {
		vars := r.Intn(7)
		table := make([]bool, 1<<vars)
		for i := range table {
			table[i] = r.Intn(2) == 0
		}
		b, _ := bdd.FromTable(vars, table)
		d, code := ddnnf.OfBdd(b)
		if code != api.OK || d.Vars != vars || checkModel(d) != api.OK {
			t.Fatalf("OfBdd(%v) = %v, %d", b, d, code)
		}
		if len(b.Nodes) > 0 {
			want := []api.Part{never, always}
			for _, n := range b.Nodes {
				want = append(want, dec(n.Var+1, n.Low, n.High))
			}
			if !isSame(d, api.Dnnf{Vars: vars, Parts: want}) {
				t.Fatalf("OfBdd(%v) = %v", b, d)
			}
		}
		sample.Assignments(vars, func(in []bool) {
			if value, _ := ddnnf.Eval(d, in); value != table[sample.Rank(in)] {
				t.Fatalf("OfBdd(%v) has the value %v for %v", b, value, in)
			}
		})
	}
	large := sample.Binary(sample.Sized(4000, sample.Range(0, 40, 1)...))
	d, code := ddnnf.OfBdd(large)
	want, _ := bdd.Count(large)
	if n, code2 := ddnnf.Count(d); n != want || code != api.OK || code2 != api.OK {
		t.Errorf("%d models, not %d: %d, %d", n, want, code, code2)
	}
	for _, b := range []api.Bdd{{Vars: 41}, {Vars: -1}, {Root: 2}, {Vars: 1, Root: 3, Nodes: make([]api.Fork, 1)}, {Nodes: make([]api.Fork, 4097)}} {
		if d, code := ddnnf.OfBdd(b); code != bdd.Check(b) || code == api.OK || !isSame(d, api.Dnnf{}) {
			t.Errorf("OfBdd = %v, %d", d, code)
		}
	}
}

func TestMemoryOfCompile(t *testing.T) {
	r := rand.New(rand.NewSource(6))
	for range 200 {
		vars := 1 + r.Intn(8)
		var clauses [][]int
		for range r.Intn(3 * vars) {
			clauses = append(clauses, sample.Clause(r.Intn, vars, 1+r.Intn(vars)))
		}
		c := made(vars, clauses...)
		kept := made(vars, clauses...)
		d, _ := ddnnf.Compile(c)
		if overwrite(d.Parts) {
			t.Fatal("parts share memory")
		}
		if !slices.EqualFunc(c.Clauses, kept.Clauses, func(a, b []int) bool { return slices.Equal(a, b) }) {
			t.Fatal("the formula has been changed")
		}
	}
}

// TestP33_7Parts is about formulas whose normal forms have about as many parts as they may have.
func TestP33_7Parts(t *testing.T) {
	r := rand.New(rand.NewSource(7))
	limits, most := 0, 0
	for range 20 {
		var clauses [][]int
		for range 60 {
			clauses = append(clauses, sample.Clause(r.Intn, 37, 3))
		}
		d, code := ddnnf.Compile(made(37, clauses...))
		if code == api.ErrLimit {
			limits++
			continue
		}
		if code != api.OK || ddnnf.Check(d) != api.OK {
			t.Fatalf("%d parts: %d, %d", len(d.Parts), code, ddnnf.Check(d))
		}
		most = max(most, len(d.Parts))
	}
	if limits == 0 || most < 10000 {
		t.Errorf("%d of 20 formulas cannot be compiled, others have up to %d parts", limits, most)
	}
}
