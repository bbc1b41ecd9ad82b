package sample_test

import (
	"math/rand"
	"testing"

	"keyhole/sample"
)

func TestIsModel(t *testing.T) {
	clauses := [][]int{{-1, 2}, {1, -2}, {3, 1}}
	var models []int
	sample.Assignments(4, func(in []bool) {
		if sample.IsModel(clauses, in) {
			models = append(models, sample.Rank(in))
		}
	})
	if want := []int{2, 3, 12, 13, 14, 15}; !sample.IsSameList([][]int{models}, [][]int{want}) {
		t.Errorf("%v", models)
	}
	if sample.IsModel([][]int{{}}, nil) || !sample.IsModel(nil, nil) {
		t.Error("the empty clause, or no clause")
	}
	if sample.IsSameList([][]int{{1}, {}}, [][]int{{1}}) || sample.IsSameList([][]int{{1}}, [][]int{{1, 2}}) || !sample.IsSameList([][]int{nil}, [][]int{{}}) {
		t.Error("equal lists")
	}
}

func TestClause(t *testing.T) {
	r := rand.New(rand.NewSource(1))
	met := map[[2]int]bool{}
	for range 500 {
		clause := sample.Clause(r.Intn, 3, 2)
		if len(clause) != 2 || sample.IsModel([][]int{clause, {-clause[0]}, {-clause[1]}}, make([]bool, 3)) {
			t.Fatalf("%v", clause)
		}
		met[[2]int(clause)] = true
	}
	if len(met) != 24 {
		t.Errorf("%d clauses of 24", len(met))
	}
}

// count returns the number of models.
func count(vars int, clauses [][]int) int {
	n := 0
	sample.Assignments(vars, func(in []bool) {
		if sample.IsModel(clauses, in) {
			n++
		}
	})
	return n
}

func TestCounts(t *testing.T) {
	for _, c := range []struct {
		vars    int
		clauses [][]int
		want    int
	}{
		{4, sample.Parity(1, 1, 3, 4), 8},
		{1, sample.Parity(1, 1), 1},
		{0, sample.Parity(1), 0},
		{0, sample.Parity(0), 1},
		{6, sample.Pigeons(3, 2), 0},
		{2, sample.Sums(1), 1},
		{8, sample.Sums(4), 8},
		{9, sample.Pigeons(3, 3), 6},
		{5, sample.Everything(5), 0},
		{5, sample.Everything(5)[1:], 1},
	} {
		if got := count(c.vars, c.clauses); got != c.want {
			t.Errorf("%v has %d models, not %d", c.clauses, got, c.want)
		}
	}
	formulas, models := 0, 0
	sample.Formulas(func(clauses [][]int) {
		formulas++
		models += count(2, clauses)
	})
	// Of the nine clauses, an assignment makes five true.
	if formulas != 512 || models != 4*32 {
		t.Errorf("%d formulas with %d models", formulas, models)
	}
}
