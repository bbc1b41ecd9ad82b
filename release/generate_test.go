package release_test

import (
	"math/rand"
	"testing"

	"keyhole/api"
	"keyhole/sample"
)

var (
	lit, ref, op      = sample.Lit, sample.Ref, sample.Op
	set, output, wait = sample.Set, sample.Output, sample.Wait
	test, loop        = sample.If, sample.Loop
)

// newSource returns a source of programs with many outputs.
func newSource(seed int64) *sample.Source {
	g := sample.NewSource(rand.New(rand.NewSource(seed)).Intn)
	g.Kinds = []api.Action{api.If, api.If, api.Loop, api.Loop, api.Assign, api.Assign, api.Assign, api.Output, api.Output, api.Output, api.Wait, api.Release}
	return g
}

// settings calls visit with all values of the public and random inputs of the programs.
func settings(visit func(public, random []int)) {
	for _, p := range []int{1, 2} {
		for _, r := range []int{0, 1} {
			visit([]int{p}, []int{r})
		}
	}
}

// each calls visit with a program for every body of at most 3 steps, and with random programs, each with a random policy.
func each(t *testing.T, random int, visit func(f api.Flat, p api.Policy)) {
	t.Helper()
	k := sample.Kit{
		Single: []api.Step{set(0, op(api.OpAdd, ref(2), ref(1))), set(2, ref(5)), output(op(api.OpAdd, ref(0), ref(6))), sample.Release(2, 0), wait(1)},
		Loops:  []api.Step{loop(2, ref(1)), loop(1, lit(1))},
		Ifs:    []api.Step{test(ref(2), nil, nil)},
	}
	source := newSource(int64(random))
	hatches := sample.Hatches()
	count := 0
	for size := range 4 {
		k.Bodies(size, func(list []api.Step) {
			visit(api.Flat{Vars: sample.Vars(), Hatches: hatches, Body: list}, source.Policy(count%(len(hatches)+1)))
			count++
		})
	}
	if count < 1000 {
		t.Fatalf("%d programs", count)
	}
	for i := range random {
		visit(source.Program(), source.Policy(i%(len(hatches)+1)))
	}
}
