package cnf_test

import (
	"math/rand"
	"slices"
	"testing"

	"keyhole/api"
	"keyhole/cnf"
	"keyhole/sample"
)

var binary = sample.Binary

func TestP30_5Examples(t *testing.T) {
	for _, c := range []struct {
		b    api.Bdd
		want api.Cnf
	}{
		{api.Bdd{Vars: 2, Nodes: []api.Fork{{Var: 1, High: 1}, {Var: 0, High: 2}}, Root: 3}, api.Cnf{Vars: 4, Keep: 2, Clauses: [][]int{{-1, -3, 4}, {-1, 3, -4}, {1, -4}, {-2, 3}, {2, -3}, {4}}}},
		{api.Bdd{Vars: 3, Root: 1}, api.Cnf{Vars: 3, Keep: 3}}, {api.Bdd{Vars: 3}, api.Cnf{Vars: 3, Keep: 3, Clauses: [][]int{{}}}}, {api.Bdd{}, api.Cnf{Clauses: [][]int{{}}}},
		{api.Bdd{Vars: 1, Nodes: []api.Fork{{Var: 0, Low: 1}}, Root: 2}, api.Cnf{Vars: 2, Keep: 1, Clauses: [][]int{{-1, -2}, {1, 2}, {2}}}},
	} {
		if got, code := cnf.OfBdd(c.b); !isCnf(got, c.want) || code != api.OK {
			t.Errorf("OfBdd(%v) = %v, %d, want %v", c.b, got, code, c.want)
		}
	}
}

// checkBdd compares OfBdd with the model, and counts its models if they are not too many.
func checkBdd(t *testing.T, b api.Bdd, table []bool) {
	t.Helper()
	c, code := cnf.OfBdd(b)
	if want := ofBddModel(b); !isCnf(c, want) || code != api.OK {
		t.Fatalf("OfBdd(%v) = %v, %d, want %v", b, c, code, want)
	}
	if cnf.Check(c) != api.OK {
		t.Fatalf("OfBdd(%v) = %v", b, c)
	}
	if c.Vars > 10 {
		return
	}
	want := 0
	for _, v := range table {
		if v {
			want++
		}
	}
	count, most := projected(c, c.Keep)
	if count != want || most > 1 {
		t.Fatalf("OfBdd(%v) = %v has %d projected models, want %d; %d are for one assignment", b, c, count, want, most)
	}
}

func TestP30_5OfBdd(t *testing.T) {
	for vars := range 4 {
		sample.Assignments(1<<vars, func(table []bool) {
			numbers := sample.Pointwise(func(l []bool) int {
				if l[0] {
					return 1
				}
				return 0
			}, table)
			checkBdd(t, binary(sample.Reduced(vars, sample.Range(0, vars, 1), numbers)), table)
		})
	}
	r := rand.New(rand.NewSource(309))
	for range 300 {
		b := binary(diagram(r, 4+r.Intn(4), func() int { return r.Intn(2) }))
		var table []bool
		sample.Assignments(b.Vars, func(in []bool) {
			leaves := api.Mtbdd{Vars: b.Vars, Leaves: []int{0, 1}, Nodes: b.Nodes, Root: b.Root}
			table = append(table, sample.Value(leaves, in) == 1)
		})
		checkBdd(t, b, table)
	}
	checkBdd(t, binary(sample.Sized(api.MaxDiagram, sample.Range(0, 40, 1)...)), nil)
}

func TestP30_5Errors(t *testing.T) {
	for i, c := range []struct {
		b    api.Bdd
		code api.Code
	}{
		{api.Bdd{Vars: 41}, api.ErrRange}, {api.Bdd{Vars: -1}, api.ErrRange}, {api.Bdd{Vars: 1, Root: 2}, api.ErrArgument}, {api.Bdd{Nodes: make([]api.Fork, 4097)}, api.ErrLimit}, {api.Bdd{Vars: 2, Nodes: []api.Fork{{Var: 0, High: 1}, {Var: 0, High: 2}}, Root: 3}, api.ErrArgument},
	} {
		if got, code := cnf.OfBdd(c.b); !isCnf(got, api.Cnf{}) || code != c.code {
			t.Errorf("%d: OfBdd = %v, %d", i, got, code)
		}
	}
}

func TestP30_6Examples(t *testing.T) {
	yes, no := true, false
	pair := api.Mtbdd{Vars: 1, Leaves: []int{-1, 1}, Nodes: []api.Fork{{Var: 0, Low: 1, High: 0}}, Root: 2}
	for _, c := range []struct {
		a     api.Mtbdd
		words [][]bool
		want  api.Cnf
	}{
		{pair, [][]bool{{no, no}, {yes, no}}, api.Cnf{Vars: 6, Keep: 2, Clauses: [][]int{{1, -5}, {-2, -5}, {-3, 4, -6}, {3, 5, -6}, {-4}, {6}}}},
		{api.Mtbdd{Leaves: []int{-5}}, nil, api.Cnf{Vars: 1, Clauses: [][]int{{-1}, {1}}}},
		{api.Mtbdd{Leaves: []int{-5}}, [][]bool{{}}, api.Cnf{Vars: 1, Clauses: [][]int{{-1}, {1}}}},
		{api.Mtbdd{Leaves: []int{0}}, [][]bool{{}}, api.Cnf{Vars: 1, Clauses: [][]int{{1}}}},
		{api.Mtbdd{Vars: 2, Leaves: []int{0}}, [][]bool{{yes}}, api.Cnf{Vars: 4, Keep: 1, Clauses: [][]int{{1, -4}, {4}}}},
	} {
		if got, code := cnf.OfMtbdd(c.a, c.words); !isCnf(got, c.want) || code != api.OK {
			t.Errorf("OfMtbdd(%v, %v) = %v, %d, want %v", c.a, c.words, got, code, c.want)
		}
	}
}

func TestP30_6OfMtbdd(t *testing.T) {
	r := rand.New(rand.NewSource(310))
	counted, excluded, repeated := 0, 0, 0
	for range 3000 {
		width, many := r.Intn(4), 1+r.Intn(4)
		list := words(r, many, width)
		a := diagram(r, r.Intn(4), func() int { return r.Intn(many+2) - 2 })
		c, code := cnf.OfMtbdd(a, list)
		if want := ofMtbddModel(a, list, width); !isCnf(c, want) || code != api.OK || cnf.Check(c) != api.OK {
			t.Fatalf("OfMtbdd(%v, %v) = %v, %d, want %v", a, list, c, code, want)
		}
		if c.Vars > 12 {
			continue
		}
		counted++
		var seen []int
		for _, leaf := range a.Leaves {
			if leaf < 0 {
				excluded++
			} else if n := sample.Rank(list[leaf]); slices.Contains(seen, n) {
				repeated++
			} else {
				seen = append(seen, n)
			}
		}
		if count, _ := projected(c, c.Keep); count != len(seen) {
			t.Fatalf("OfMtbdd(%v, %v) = %v has %d projected models, want %d", a, list, c, count, len(seen))
		}
	}
	if counted < 1000 || excluded < 500 || repeated < 200 {
		t.Errorf("%d counted, %d leaves excluded, %d words repeated", counted, excluded, repeated)
	}
}

func TestP30_6Errors(t *testing.T) {
	leaf := func(x int) api.Mtbdd { return api.Mtbdd{Leaves: []int{x}} }
	for i, c := range []struct {
		a     api.Mtbdd
		words [][]bool
		code  api.Code
	}{
		{api.Mtbdd{}, nil, api.ErrArgument}, {api.Mtbdd{Vars: 41}, [][]bool{{}, {true}}, api.ErrRange}, {api.Mtbdd{Leaves: make([]int, 4097)}, [][]bool{{}, {true}}, api.ErrLimit}, {api.Mtbdd{Leaves: []int{2, 1}}, [][]bool{{}, {true}}, api.ErrArgument},
		{leaf(0), nil, api.ErrMismatch}, {leaf(2), words(rand.New(rand.NewSource(1)), 2, 3), api.ErrMismatch}, {leaf(0), [][]bool{{}, {true}}, api.ErrMismatch}, {leaf(-1), [][]bool{{true}, {}}, api.ErrMismatch}, {leaf(-1), [][]bool{{true}, {false}, {true, true}}, api.ErrMismatch},
		{leaf(1), [][]bool{make([]bool, 20001)}, api.ErrMismatch}, {leaf(0), [][]bool{make([]bool, 20001), {}}, api.ErrMismatch},
		{leaf(0), [][]bool{make([]bool, 19999)}, api.OK}, {leaf(0), [][]bool{make([]bool, 20000)}, api.ErrLimit}, {leaf(-3), [][]bool{make([]bool, 20000)}, api.ErrLimit}, {leaf(-3), [][]bool{make([]bool, 19999)}, api.OK},
	} {
		got, code := cnf.OfMtbdd(c.a, c.words)
		if code != c.code || code != api.OK && !isCnf(got, api.Cnf{}) || code == api.OK && cnf.Check(got) != api.OK {
			t.Errorf("%d: OfMtbdd = %v, %d, want %d", i, got, code, c.code)
		}
	}
}

// TestP30_6Limits has formulas with as many clauses as there may be, and with one more.
func TestP30_6Limits(t *testing.T) {
	table := make([]int, 1<<10)
	for i := range table {
		table[i] = i
	}
	for _, negative := range []int{0, 1, 2, 3} {
		for i := range negative {
			table[i] = -1 - i
		}
		a := sample.Reduced(10, sample.Range(0, 10, 1), table)
		positive := len(table) - negative
		rest := 1 + 2*len(a.Nodes) + negative
		width := (api.MaxClause - rest) / positive
		for _, w := range []int{width, width + 1} {
			c, code := cnf.OfMtbdd(a, blank(len(table), w))
			want := rest + w*positive
			if want <= api.MaxClause && (code != api.OK || len(c.Clauses) != want) || want > api.MaxClause && (code != api.ErrLimit || !isCnf(c, api.Cnf{})) {
				t.Errorf("%d clauses, %d, want %d", len(c.Clauses), code, want)
			}
		}
	}
	// A leaf with a wide word, and leaves that are excluded.
	for excluded := 1; excluded <= 3; excluded++ {
		a := api.Mtbdd{Vars: 2, Leaves: []int{-2, -1, 0}, Nodes: []api.Fork{{Var: 1, Low: 0, High: 1}, {Var: 0, Low: 3, High: 2}}, Root: 4}
		if c, code := cnf.OfMtbdd(a, blank(1, 19990+excluded)); code != api.OK || len(c.Clauses) != 1+4+2+19990+excluded {
			t.Errorf("%d clauses, %d", len(c.Clauses), code)
		}
	}
	// Four leaves that are not excluded, and two or three that are.
	for _, c := range []struct {
		table          []int
		width, clauses int
	}{
		{[]int{-3, -2, -1, 0, 1, 2, 3, 3}, 14995, 59996}, {[]int{-3, -2, -1, 0, 1, 2, 3, 3}, 14996, 60000}, {[]int{-3, -2, -1, 0, 1, 2, 3, 3}, 14997, 60004},
		{[]int{-2, -1, 0, 1, 2, 2, 3, 3}, 14996, 59997}, {[]int{-2, -1, 0, 1, 2, 2, 3, 3}, 14997, 60001},
	} {
		got, code := cnf.OfMtbdd(sample.Reduced(3, []int{0, 1, 2}, c.table), blank(4, c.width))
		if c.clauses <= api.MaxClause && (code != api.OK || len(got.Clauses) != c.clauses) || c.clauses > api.MaxClause && (code != api.ErrLimit || !isCnf(got, api.Cnf{})) {
			t.Errorf("%d clauses, %d, want %d", len(got.Clauses), code, c.clauses)
		}
	}
}

// blank returns words of a width without true bits.
func blank(count, width int) [][]bool {
	list := make([][]bool, count)
	for i := range list {
		list[i] = make([]bool, width)
	}
	return list
}
