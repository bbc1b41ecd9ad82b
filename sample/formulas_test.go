package sample_test

import (
	"testing"

	"keyhole/sample"
)

func TestIsModel(t *testing.T) {
	clauses := [][]int{{-1, 2}, {1, -2}, {3, 1}}
	var models []int
	sample.Assignments(4, func(in []bool) {
		if sample.IsModel(clauses, in) {
			models = append(models, sample.Rank(in))
		}
	})
	if want := []int{2, 3, 12, 13, 14, 15}; !sample.IsSameList([][]int{models}, [][]int{want}) {
		t.Errorf("%v", models)
	}
	if sample.IsModel([][]int{{}}, nil) || !sample.IsModel(nil, nil) {
		t.Error("the empty clause, or no clause")
	}
	if sample.IsSameList([][]int{{1}, {}}, [][]int{{1}}) || sample.IsSameList([][]int{{1}}, [][]int{{1, 2}}) || !sample.IsSameList([][]int{nil}, [][]int{{}}) {
		t.Error("equal lists")
	}
}
