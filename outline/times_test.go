package outline_test

import (
	"testing"

	"keyhole/api"
	"keyhole/outline"
)

func TestHasOneTime(t *testing.T) {
	wait := func(cost int) []api.Step { return []api.Step{{Do: api.Wait, Cost: cost}} }
	x := api.Term{Op: api.OpRef}
	uneven := []api.Step{{Do: api.If, Term: x, Then: wait(1)}}
	for i, c := range []struct {
		step api.Step
		want bool
	}{
		{api.Step{Do: api.Assign, Cost: 3, Term: x}, true}, {api.Step{Do: api.Output, Term: x}, true}, {api.Step{Do: api.Settle, Bounds: []int{1, 2}}, true},
		{api.Step{Do: api.If, Term: x}, true}, {api.Step{Do: api.If, Term: x, Then: wait(2), Else: wait(2)}, true}, {api.Step{Do: api.If, Term: x, Then: wait(2), Else: wait(1)}, false},
		{api.Step{Do: api.If, Then: uneven, Else: uneven}, false}, {api.Step{Do: api.If, Else: uneven}, false}, {api.Step{Do: api.If, Then: uneven}, false}, {api.Step{Do: api.If, Then: wait(1)}, false},
		{api.Step{Do: api.Loop, N: 2, Then: wait(2)}, true}, {api.Step{Do: api.Loop, N: 2, Term: x, Then: wait(2)}, false}, {api.Step{Do: api.Loop, N: 2, Then: uneven}, false}, {api.Step{Do: api.Loop, Term: x}, false},
	} {
		if got := outline.HasOneTime(c.step); got != c.want {
			t.Errorf("%d: HasOneTime = %t", i, got)
		}
	}
}

func TestIsSettled(t *testing.T) {
	branch := api.Step{Do: api.If, Cost: 1, Then: []api.Step{{Do: api.Wait, Cost: 4}}}
	settle := func(cost int, bounds ...int) api.Step { return api.Step{Do: api.Settle, Cost: cost, Bounds: bounds} }
	for i, c := range []struct {
		body []api.Step
		want bool
	}{
		{nil, false}, {[]api.Step{branch}, false}, {[]api.Step{settle(0, 0)}, true}, {[]api.Step{settle(1, 0)}, false},
		{[]api.Step{branch, settle(0, 5)}, true}, {[]api.Step{branch, settle(0, 4, 5)}, false}, {[]api.Step{branch, settle(0, 6, 9)}, true}, {[]api.Step{branch, settle(1, 5)}, false},
	} {
		if got := outline.IsSettled(api.Flat{Body: c.body}); got != c.want {
			t.Errorf("%d: IsSettled = %t", i, got)
		}
	}
}
