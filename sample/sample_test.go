package sample_test

import (
	"math/rand"
	"slices"
	"testing"

	"keyhole/api"
	"keyhole/domain"
	"keyhole/flat"
	"keyhole/policy"
	"keyhole/sample"
)

func TestInputs(t *testing.T) {
	vars := sample.Vars()
	if flat.Check(api.Flat{Vars: vars, Hatches: sample.Hatches()}) != api.OK {
		t.Error("the variables and hatches are not valid")
	}
	for i, v := range vars {
		if isLocal := v.Kind == api.Local; slices.Contains(sample.Locals(), i) != isLocal || slices.Contains(sample.Inputs(), i) == isLocal {
			t.Errorf("the variable %d has another kind", i)
		}
	}
	for rank, secret := range sample.Secrets() {
		if want, code := domain.Unrank(vars, api.Secret, rank); !slices.Equal(secret, want) || code != api.OK {
			t.Errorf("the secret %d is %v, want %v", rank, secret, want)
		}
	}
	seen := map[[3]int]bool{}
	for _, in := range sample.AllInputs() {
		var ranks [3]int
		var codes [3]api.Code
		ranks[0], codes[0] = domain.Rank(vars, api.Secret, in.Secret)
		ranks[1], codes[1] = domain.Rank(vars, api.Public, in.Public)
		ranks[2], codes[2] = domain.Rank(vars, api.Random, in.Random)
		if codes != [3]api.Code{} {
			t.Errorf("the inputs %v are outside: %v", in, codes)
		}
		seen[ranks] = true
	}
	if len(seen) != 12*2*2 || len(sample.AllInputs()) != len(seen) || len(sample.Secrets()) != 12 {
		t.Errorf("%d inputs", len(seen))
	}
}

func TestHatchValues(t *testing.T) {
	f := api.Flat{Vars: append(sample.Vars(), api.Var{Name: "x", Low: -9, High: 9}), Hatches: sample.Hatches()}
	for h := range f.Hatches {
		f.Body = append(f.Body, sample.Release(len(f.Vars)-1, h), sample.Output(sample.Ref(len(f.Vars)-1)))
	}
	for _, in := range sample.AllInputs() {
		if run, code := flat.Run(f, in); !slices.Equal(run.Outputs, sample.HatchValues(in)) || code != api.OK {
			t.Errorf("HatchValues = %v, and a run releases %v, %d", sample.HatchValues(in), run.Outputs, code)
		}
	}
}

func TestBodies(t *testing.T) {
	k := sample.Kit{Single: []api.Step{sample.Wait(1), sample.Wait(2)}, Loops: []api.Step{sample.Loop(1, sample.Lit(1))}, Ifs: []api.Step{sample.If(sample.Lit(1), nil, nil)}}
	// There are 4, 12 and 100 steps of the sizes 1, 2 and 3.
	for size, want := range []int{1, 4, 4*4 + 12, 4*28 + 12*4 + 100} {
		seen := map[string]bool{}
		k.Bodies(size, func(list []api.Step) {
			f := api.Flat{Body: list}
			if flat.Size(f) != size || flat.Check(f) != api.OK {
				t.Fatalf("%d steps: %+v", size, f)
			}
			seen[flat.Text(f)] = true
		})
		if len(seen) != want {
			t.Errorf("%d lists of %d steps, want %d", len(seen), size, want)
		}
	}
}

func TestSource(t *testing.T) {
	g := sample.NewSource(rand.New(rand.NewSource(1)).Intn)
	kinds := map[api.Action]int{}
	levels := map[int]int{}
	for i := range 300 {
		f := g.Program()
		hatches := i % (len(sample.Hatches()) + 1)
		p := g.Policy(hatches)
		for at := range flat.Size(f) {
			s, _ := flat.At(f, at)
			kinds[s.Do]++
		}
		levels[len(p.Levels)]++
		_, inputCode := policy.Inputs(f, p)
		_, hatchCode := policy.Hatches(f, p)
		if flat.Check(f) != api.OK || inputCode != api.OK || hatchCode != api.OK || len(p.Hatches) != hatches {
			t.Fatalf("the codes are %d and %d: %+v\n%s", inputCode, hatchCode, p, flat.Text(f))
		}
	}
	if len(kinds) != 7 || len(levels) != 5 {
		t.Errorf("the kinds of steps are %v, the numbers of levels %v", kinds, levels)
	}
}
