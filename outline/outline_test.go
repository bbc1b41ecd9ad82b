package outline_test

import (
	"reflect"
	"slices"
	"testing"

	"keyhole/api"
	"keyhole/flat"
	"keyhole/outline"
)

func TestPlaces(t *testing.T) {
	wait := func(cost int, then, other []api.Step) api.Step {
		return api.Step{Do: api.Wait, Cost: cost, Then: then, Else: other}
	}
	f := api.Flat{Body: []api.Step{
		wait(0, nil, nil),
		wait(1, []api.Step{wait(2, nil, []api.Step{wait(3, nil, nil)}), wait(4, nil, nil)}, []api.Step{wait(5, nil, nil)}),
		wait(6, []api.Step{wait(7, nil, nil)}, nil),
	}}
	var around []int
	for i, p := range outline.Places(f) {
		if s, code := flat.At(f, i); p.Cost != i || !reflect.DeepEqual(p.Step, s) || code != api.OK {
			t.Errorf("the step %d is %+v, want %+v, %d", i, p.Step, s, code)
		}
		around = append(around, p.Around)
	}
	if want := []int{outline.None, outline.None, 1, 2, 1, 1, outline.None, 6}; !slices.Equal(around, want) {
		t.Errorf("the steps around them are %v, want %v", around, want)
	}
	if places := outline.Places(api.Flat{}); len(places) > 0 {
		t.Errorf("nothing has the steps %v", places)
	}
}

func TestVariables(t *testing.T) {
	ref := func(i int) api.Term { return api.Term{Op: api.OpRef, N: i} }
	op := func(o api.Op, kids ...api.Term) api.Term { return api.Term{Op: o, Kids: kids} }
	for i, c := range []struct {
		term api.Term
		want []int
	}{
		{api.Term{}, nil}, {api.Term{N: 5}, nil}, {ref(0), []int{0}}, {op(api.OpNeg, ref(3)), []int{3}}, {op(api.OpAdd, ref(3), ref(3)), []int{3}},
		{op(api.OpSelect, ref(9), op(api.OpCond, ref(2), api.Term{N: 1}, ref(9)), op(api.OpNot, op(api.OpSub, ref(4), ref(0)))), []int{0, 2, 4, 9}},
	} {
		if got := outline.Variables(c.term); !slices.Equal(got, c.want) {
			t.Errorf("%d: Variables = %v, want %v", i, got, c.want)
		}
	}
}
