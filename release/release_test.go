package release_test

import (
	"reflect"
	"slices"
	"strconv"
	"testing"

	"keyhole/api"
	"keyhole/domain"
	"keyhole/flat"
	"keyhole/partition"
	"keyhole/policy"
	"keyhole/release"
	"keyhole/sample"
)

// example is the program of the chapter's examples, and a policy that releases its hatch.
func example() (api.Flat, api.Policy) {
	f := api.Flat{
		Vars:    []api.Var{{Name: "pin", Kind: api.Secret, High: 3}, {Name: "x", High: 1}},
		Hatches: []api.Hatch{{Name: "even", High: 1, Term: op(api.OpEq, op(api.OpMod, ref(0), lit(2)), lit(0))}},
		Body:    []api.Step{sample.Release(1, 0), output(ref(1))},
	}
	p := sample.Lattices()[0]
	p.Hatches = []api.Label{{Name: "even"}}
	return f, p
}

func TestP26_1Values(t *testing.T) {
	f := api.Flat{Vars: sample.Vars(), Hatches: sample.Hatches()}
	settings(func(public, random []int) {
		for _, secret := range sample.Secrets() {
			in := api.Inputs{Secret: secret, Public: public, Random: random}
			values, code := release.Values(f, in)
			if want := sample.HatchValues(in); !slices.Equal(values, want) || code != api.OK {
				t.Errorf("Values = %v, %d, want %v: %v", values, code, want, in)
			}
		}
	})
	if values, code := release.Values(api.Flat{}, api.Inputs{}); len(values) > 0 || code != api.OK {
		t.Errorf("Values = %v, %d", values, code)
	}
	// The steps do not matter, only the inputs at the start do.
	f.Body = []api.Step{set(0, ref(1)), output(ref(0))}
	if values, code := release.Values(f, api.Inputs{Secret: []int{2, 0}, Public: []int{1}, Random: []int{1}}); !slices.Equal(values, []int{1, 0, 1, 2, 2}) || code != api.OK {
		t.Errorf("Values = %v, %d", values, code)
	}
}

func TestP26_1Released(t *testing.T) {
	f := api.Flat{Vars: sample.Vars(), Hatches: sample.Hatches()}
	for h := range f.Hatches {
		f.Vars = append(f.Vars, api.Var{Name: "copy" + strconv.Itoa(h), Low: -9, High: 9})
		f.Body = append(f.Body, sample.Release(len(f.Vars)-1, h), output(ref(len(f.Vars)-1)))
	}
	settings(func(public, random []int) {
		for _, secret := range sample.Secrets() {
			in := api.Inputs{Secret: secret, Public: public, Random: random}
			values, _ := release.Values(f, in)
			if run, code := flat.Run(f, in); !slices.Equal(values, run.Outputs) || code != api.OK {
				t.Errorf("Values = %v, and a run releases %v, %d", values, run.Outputs, code)
			}
		}
	})
}

func TestP26_2Examples(t *testing.T) {
	f, p := example()
	checkAll := func(permitted, actual []int, timed bool) {
		t.Helper()
		if got, code := release.Permitted(f, p, nil, nil); !slices.Equal(got, permitted) || code != api.OK {
			t.Errorf("Permitted = %v, %d, want %v", got, code, permitted)
		}
		if got, code := release.Actual(f, api.View{Timed: timed}, nil); !slices.Equal(got, actual) || code != api.OK {
			t.Errorf("Actual = %v, %d, want %v", got, code, actual)
		}
	}
	checkAll([]int{0, 1, 0, 1}, []int{0, 1, 0, 1}, true)
	f.Body = append(f.Body, output(op(api.OpDiv, ref(0), lit(2))))
	checkAll([]int{0, 1, 0, 1}, []int{0, 1, 2, 3}, false)
	p.Hatches = nil
	checkAll([]int{0, 0, 0, 0}, []int{0, 1, 2, 3}, false)
	p.Inputs = []api.Label{{Name: "pin"}}
	checkAll([]int{0, 1, 2, 3}, []int{0, 1, 2, 3}, false)
	// Only the time, and only the number of outputs, tell secrets apart.
	f.Body = []api.Step{loop(3, op(api.OpLt, ref(1), ref(0)), set(1, op(api.OpAdd, ref(1), lit(1))))}
	f.Vars[1].High = 9
	f.Body[0].Cost = 1
	checkAll([]int{0, 1, 2, 3}, []int{0, 1, 2, 2}, true)
	checkAll([]int{0, 1, 2, 3}, []int{0, 0, 0, 0}, false)
	f.Body[0].Cost, f.Body[0].Then[0] = 0, output(lit(0))
	checkAll([]int{0, 1, 2, 3}, []int{0, 1, 1, 1}, true)
}

// TestP26_2Keys has values of several digits, which must not be taken for each other when they stand side by side.
func TestP26_2Keys(t *testing.T) {
	f := api.Flat{
		Vars:    []api.Var{{Name: "x", Kind: api.Secret, Low: -11, High: 12}, {Name: "y", Kind: api.Secret, Low: -11, High: 12}},
		Hatches: []api.Hatch{{Name: "h", Low: -100, High: 100, Term: ref(0)}, {Name: "k", Low: -100, High: 100, Term: ref(1)}},
		Body:    []api.Step{output(ref(0)), output(ref(1))},
	}
	p := sample.Lattices()[0]
	var all []int
	for i := range 24 * 24 {
		all = append(all, i)
	}
	p.Inputs = []api.Label{{Name: "x"}, {Name: "y"}}
	if got, code := release.Permitted(f, p, nil, nil); !slices.Equal(got, all) || code != api.OK {
		t.Errorf("Permitted = %v, %d", got, code)
	}
	p.Inputs, p.Hatches = nil, []api.Label{{Name: "h"}, {Name: "k"}}
	if got, code := release.Permitted(f, p, nil, nil); !slices.Equal(got, all) || code != api.OK {
		t.Errorf("Permitted = %v, %d", got, code)
	}
	if got, code := release.Actual(f, api.View{}, nil); !slices.Equal(got, all) || code != api.OK {
		t.Errorf("Actual = %v, %d", got, code)
	}
}

func TestP26_2Model(t *testing.T) {
	counts := map[int]int{}
	each(t, 1500, func(f api.Flat, p api.Policy) {
		settings(func(public, random []int) {
			want := permittedModel(f, p, public, random)
			if got, code := release.Permitted(f, p, public, random); !slices.Equal(got, want) || code != api.OK {
				t.Fatalf("Permitted = %v, %d, want %v: %+v\n%s", got, code, want, p, flat.Text(f))
			}
			counts[partition.Count(want)]++
		})
		for i, timed := range []bool{false, true} {
			v, random := api.View{Public: []int{1 + i}, Timed: timed}, []int{i}
			want := actualModel(f, v, random)
			if got, code := release.Actual(f, v, random); !slices.Equal(got, want) || code != api.OK {
				t.Fatalf("Actual = %v, %d, want %v: %v\n%s", got, code, want, v, flat.Text(f))
			}
		}
	})
	if len(counts) < 8 || counts[1] < 100 || counts[12] < 100 {
		t.Errorf("the numbers of permitted classes are %v", counts)
	}
}

func TestP26_3Examples(t *testing.T) {
	f, p := example()
	checkBreach := func(wantRandom, wantA, wantB int, wantCode api.Code, wantExcess int) {
		t.Helper()
		v := api.View{Timed: true}
		if random, a, b, code := release.Breach(f, p, v); random != wantRandom || a != wantA || b != wantB || code != wantCode {
			t.Errorf("Breach = %d, %d, %d, %d, want %d, %d, %d, %d", random, a, b, code, wantRandom, wantA, wantB, wantCode)
		}
		if excess, code := release.Excess(f, p, v); excess != wantExcess || code != api.OK {
			t.Errorf("Excess = %d, %d, want %d", excess, code, wantExcess)
		}
	}
	checkBreach(0, 0, 0, api.ErrMissing, 1)
	f.Body = append(f.Body, output(op(api.OpDiv, ref(0), lit(2))))
	checkBreach(0, 0, 2, api.OK, 2)
	// The least a is looked for before the least b: the classes are {0, 3} and {1, 2}, and all secrets are told apart.
	f.Hatches[0].Term = op(api.OpEq, op(api.OpMod, ref(0), lit(3)), lit(0))
	checkBreach(0, 0, 3, api.OK, 2)
	// Only 1 and 2 are told apart.
	f.Body = []api.Step{output(op(api.OpEq, ref(0), lit(2)))}
	checkBreach(0, 1, 2, api.OK, 2)
	p.Hatches = nil
	checkBreach(0, 0, 2, api.OK, 2)
	f.Body = []api.Step{output(op(api.OpMin, ref(0), lit(2)))}
	checkBreach(0, 0, 1, api.OK, 3)
	// Only the last random vector tells secrets apart.
	f.Vars = append(f.Vars, api.Var{Name: "r", Kind: api.Random, Low: -2, High: 2})
	f.Body = []api.Step{test(op(api.OpEq, ref(2), lit(2)), []api.Step{output(ref(0))}, nil)}
	checkBreach(4, 0, 1, api.OK, 4)
}

func TestP26_3Model(t *testing.T) {
	randoms, firsts := map[int]int{}, map[int]int{}
	missing := 0
	each(t, 2500, func(f api.Flat, p api.Policy) {
		v := api.View{Public: []int{1 + len(f.Body)%2}, Timed: p.Timed}
		wantRandom, wantA, wantB, wantCode := breachModel(f, p, v)
		random, a, b, code := release.Breach(f, p, v)
		if random != wantRandom || a != wantA || b != wantB || code != wantCode {
			t.Fatalf("Breach = %d, %d, %d, %d, want %d, %d, %d, %d: %+v\n%s", random, a, b, code, wantRandom, wantA, wantB, wantCode, p, flat.Text(f))
		}
		isRefined := true
		for r := range 2 {
			permitted, _ := release.Permitted(f, p, v.Public, []int{r})
			actual, _ := release.Actual(f, v, []int{r})
			refines, _ := partition.Refines(permitted, actual)
			isRefined = isRefined && refines
		}
		if isRefined != (code == api.ErrMissing) {
			t.Fatalf("Breach = %d, and that the permitted partitions refine the actual ones is %t", code, isRefined)
		}
		if code == api.ErrMissing {
			missing++
			return
		}
		randoms[random]++
		firsts[a]++
	})
	if missing < 500 || randoms[0] < 300 || randoms[1] < 20 || len(firsts) < 4 {
		t.Errorf("%d without a breach, the random vectors %v, the first secrets %v", missing, randoms, firsts)
	}
}

func TestP26_4Excess(t *testing.T) {
	counts := map[int]int{}
	each(t, 1500, func(f api.Flat, p api.Policy) {
		v := api.View{Public: []int{1 + len(f.Body)%2}, Timed: p.Timed}
		want := excessModel(f, p, v)
		excess, code := release.Excess(f, p, v)
		if excess != want || code != api.OK {
			t.Fatalf("Excess = %d, %d, want %d: %+v\n%s", excess, code, want, p, flat.Text(f))
		}
		_, _, _, code = release.Breach(f, p, v)
		if excess < 1 || (excess == 1) != (code == api.ErrMissing) {
			t.Fatalf("Excess = %d, and Breach is %d", excess, code)
		}
		counts[excess]++
	})
	if len(counts) < 5 {
		t.Errorf("the excesses are %v", counts)
	}
}

func TestP26_5Observers(t *testing.T) {
	finer := 0
	each(t, 800, func(f api.Flat, p api.Policy) {
		view := api.View{Public: []int{2}, Timed: p.Timed}
		permitted, excesses, breaches := make([][]int, len(p.Levels)), make([]int, len(p.Levels)), make([]api.Code, len(p.Levels))
		for level := range p.Levels {
			q := p
			q.Observer = level
			permitted[level], _ = release.Permitted(f, q, view.Public, []int{1})
			excesses[level], _ = release.Excess(f, q, view)
			_, _, _, breaches[level] = release.Breach(f, q, view)
		}
		for a := range p.Levels {
			for b := range p.Levels {
				if isBelow, _ := policy.Below(p, a, b); !isBelow {
					continue
				}
				if refines, code := partition.Refines(permitted[b], permitted[a]); !refines || code != api.OK {
					t.Fatalf("more is permitted to a lower observer: %v, %v", permitted[a], permitted[b])
				}
				if !slices.Equal(permitted[a], permitted[b]) {
					finer++
				}
				if excesses[b] > excesses[a] || breaches[a] == api.ErrMissing && breaches[b] != api.ErrMissing {
					t.Fatalf("the excesses of %d and %d are %v, the codes of Breach are %v", a, b, excesses, breaches)
				}
			}
		}
	})
	if finer < 1000 {
		t.Errorf("%d times a finer partition", finer)
	}
}

func TestP26_6Equal(t *testing.T) {
	source := newSource(6)
	counts := map[int]int{}
	for i := range 500 {
		p := source.Policy(i % 6)
		f := api.Flat{Vars: sample.Vars(), Hatches: sample.Hatches()}
		visible, _ := policy.Visible(f, p)
		released, _ := policy.Released(f, p)
		for v, variable := range sample.Vars() {
			if variable.Kind == api.Secret && visible[v] {
				f.Body = append(f.Body, output(ref(v)))
			}
		}
		for h, is := range released {
			if is {
				f.Vars = append(f.Vars, api.Var{Name: "copy" + strconv.Itoa(h), Low: -9, High: 9})
				f.Body = append(f.Body, sample.Release(len(f.Vars)-1, h), output(ref(len(f.Vars)-1)), wait(h))
			}
		}
		settings(func(public, random []int) {
			permitted, code := release.Permitted(f, p, public, random)
			actual, actualCode := release.Actual(f, api.View{Public: public}, random)
			if !slices.Equal(permitted, actual) || code != api.OK || actualCode != api.OK {
				t.Fatalf("Permitted = %v, %d, Actual = %v, %d", permitted, code, actual, actualCode)
			}
			counts[partition.Count(actual)]++
		})
	}
	if len(counts) < 8 {
		t.Errorf("the numbers of classes are %v", counts)
	}
}

func TestP26_7Classes(t *testing.T) {
	equal := 0
	each(t, 1000, func(f api.Flat, p api.Policy) {
		for _, public := range []int{1, 2} {
			v := api.View{Public: []int{public}, Timed: p.Timed}
			excess, _ := release.Excess(f, p, v)
			for random := range 2 {
				permitted, _ := release.Permitted(f, p, v.Public, []int{random})
				actual, _ := release.Actual(f, v, []int{random})
				most := partition.Count(permitted) * excess
				if partition.Count(actual) > most {
					t.Fatalf("%d classes, and at most %d: %+v\n%s", partition.Count(actual), most, p, flat.Text(f))
				}
				if partition.Count(actual) == most && excess > 1 {
					equal++
				}
			}
		}
	})
	if equal < 100 {
		t.Errorf("%d times as many classes as there may be", equal)
	}
}

// codesOf returns the codes of all functions, whose results are zero if there is an error. The secrets are for Values.
func codesOf(t *testing.T, f api.Flat, p api.Policy, secret, public, random []int) [5]api.Code {
	t.Helper()
	var codes [5]api.Code
	var values, permitted, actual []int
	var numbers [4]int
	v := api.View{Public: public, Timed: true}
	values, codes[0] = release.Values(f, api.Inputs{Secret: secret, Public: public, Random: random})
	permitted, codes[1] = release.Permitted(f, p, public, random)
	actual, codes[2] = release.Actual(f, v, random)
	numbers[0], numbers[1], numbers[2], codes[3] = release.Breach(f, p, v)
	numbers[3], codes[4] = release.Excess(f, p, v)
	if codes[0] != api.OK && len(values) > 0 || codes[1] != api.OK && len(permitted) > 0 || codes[2] != api.OK && len(actual) > 0 ||
		codes[3] != api.OK && (numbers[0] != 0 || numbers[1] != 0 || numbers[2] != 0) || codes[4] != api.OK && numbers[3] != 0 {
		t.Errorf("with the codes %v: %v, %v, %v, %v", codes, values, permitted, actual, numbers)
	}
	return codes
}

func TestP26_2Errors(t *testing.T) {
	const ok, argument, outside, name, missing = api.OK, api.ErrArgument, api.ErrRange, api.ErrName, api.ErrMissing
	valid := api.Flat{Vars: sample.Vars(), Hatches: sample.Hatches()}
	invalid := api.Flat{Vars: sample.Vars(), Hatches: sample.Hatches(), Body: []api.Step{{Do: api.Wait, Cost: -1}}}
	unnamed := api.Flat{Vars: []api.Var{{}}}
	p := sample.Lattices()[0]
	label := func(inputs, hatch string) api.Policy {
		q := p
		q.Inputs, q.Hatches = []api.Label{{Name: inputs}}, []api.Label{{Name: hatch}}
		return q
	}
	for i, c := range []struct {
		f                      api.Flat
		p                      api.Policy
		secret, public, random []int
		want                   [5]api.Code // of Values, Permitted, Actual, Breach, Excess
	}{
		{valid, p, []int{0, 0}, []int{1}, []int{0}, [5]api.Code{ok, ok, ok, missing, ok}},
		{valid, label("s", "h"), []int{2, -2}, []int{2}, []int{1}, [5]api.Code{ok, ok, ok, missing, ok}},
		{invalid, label("x", "x"), nil, nil, nil, [5]api.Code{outside, outside, outside, outside, outside}},
		{unnamed, api.Policy{}, nil, nil, nil, [5]api.Code{name, name, name, name, name}},
		{valid, api.Policy{}, nil, []int{0}, nil, [5]api.Code{argument, argument, argument, argument, argument}},
		{valid, api.Policy{}, []int{0, 0}, []int{1}, []int{0}, [5]api.Code{ok, argument, ok, argument, argument}},
		{valid, label("x", "h"), nil, nil, []int{0}, [5]api.Code{argument, name, argument, name, name}},
		{valid, label("s", "x"), nil, nil, nil, [5]api.Code{argument, name, argument, name, name}},
		// A list that is too long or too short comes before a value that is out of its range, wherever they are.
		{valid, p, []int{0}, []int{1}, []int{0}, [5]api.Code{argument, ok, ok, missing, ok}},
		{valid, p, []int{0, 0, 0}, []int{3}, []int{0}, [5]api.Code{argument, outside, outside, outside, outside}},
		{valid, p, []int{3, 0}, nil, []int{0}, [5]api.Code{argument, argument, argument, argument, argument}},
		{valid, p, []int{0, 0}, []int{0}, []int{0, 0}, [5]api.Code{argument, argument, argument, outside, outside}},
		{valid, p, []int{0, 0}, []int{1, 1}, []int{5}, [5]api.Code{argument, argument, argument, argument, argument}},
		{valid, p, []int{0, 2}, []int{1}, []int{0}, [5]api.Code{outside, ok, ok, missing, ok}},
		{valid, p, []int{0, -3}, []int{1}, []int{2}, [5]api.Code{outside, outside, outside, missing, ok}},
		{valid, p, []int{0, 0}, []int{1}, []int{-1}, [5]api.Code{outside, outside, outside, missing, ok}},
		{valid, p, []int{0, 0}, []int{0}, []int{0}, [5]api.Code{outside, outside, outside, outside, outside}},
		{api.Flat{}, p, nil, nil, nil, [5]api.Code{ok, ok, ok, missing, ok}},
		{api.Flat{}, p, []int{0}, nil, nil, [5]api.Code{argument, ok, ok, missing, ok}},
	} {
		if got := codesOf(t, c.f, c.p, c.secret, c.public, c.random); got != c.want {
			t.Errorf("%d: the codes are %v, want %v", i, got, c.want)
		}
	}
	if p, code := release.Permitted(api.Flat{}, p, nil, nil); !slices.Equal(p, []int{0}) || code != api.OK {
		t.Errorf("Permitted = %v, %d", p, code)
	}
}

// TestP26_2Limits has as many secrets, random vectors, hatches and outputs as there may be.
func TestP26_2Limits(t *testing.T) {
	f := api.Flat{Vars: []api.Var{{Name: "x", Kind: api.Secret, High: 63}, {Name: "r", Kind: api.Random, High: 255}, {Name: "y", Kind: api.Secret, High: 63}}}
	p := sample.Lattices()[0]
	for h := range api.MaxHatches {
		name := "h" + strconv.Itoa(h)
		f.Hatches = append(f.Hatches, api.Hatch{Name: name, High: 63, Term: op(api.OpDiv, ref(2), lit(h+1))})
		p.Hatches = append(p.Hatches, api.Label{Name: name, Level: min(h/2, 1)})
		f.Body = append(f.Body, output(op(api.OpMod, ref(0), lit(h+1))))
	}
	permitted, code := release.Permitted(f, p, nil, []int{255})
	if code != api.OK || len(permitted) != api.MaxSpace || partition.Count(permitted) != 64 {
		t.Errorf("%d permitted classes, %d", partition.Count(permitted), code)
	}
	actual, code := release.Actual(f, api.View{}, []int{0})
	if code != api.OK || len(actual) != api.MaxSpace || partition.Count(actual) != 64 {
		t.Errorf("%d classes, %d", partition.Count(actual), code)
	}
	if excess, code := release.Excess(f, p, api.View{}); excess != 64 || code != api.OK {
		t.Errorf("Excess = %d, %d", excess, code)
	}
	f.Body = []api.Step{test(op(api.OpEq, ref(1), lit(255)), []api.Step{output(op(api.OpEq, ref(0), lit(63)))}, nil)}
	random, a, b, code := release.Breach(f, p, api.View{})
	if last, _ := domain.Rank(f.Vars, api.Secret, []int{63, 0}); random != 255 || a != 0 || b != last || code != api.OK {
		t.Errorf("Breach = %d, %d, %d, %d", random, a, b, code)
	}
}

func TestMemory(t *testing.T) {
	arguments := func() (api.Flat, api.Policy, api.View, []int) {
		f := api.Flat{Vars: sample.Vars(), Hatches: sample.Hatches(), Body: []api.Step{sample.Release(0, 0), output(ref(0)), output(ref(1))}}
		p := sample.Lattices()[0]
		p.Hatches = []api.Label{{Name: "h"}}
		return f, p, api.View{Public: []int{2}, Timed: true}, []int{1}
	}
	f, p, v, random := arguments()
	values, _ := release.Values(f, api.Inputs{Secret: []int{1, 1}, Public: v.Public, Random: random})
	permitted, _ := release.Permitted(f, p, v.Public, random)
	actual, _ := release.Actual(f, v, random)
	_, _, _, code := release.Breach(f, p, v)
	excess, _ := release.Excess(f, p, v)
	if code != api.OK || excess != 2 {
		t.Errorf("Breach is %d, Excess %d", code, excess)
	}
	for _, list := range [][]int{values, permitted, actual} {
		list[0] = -7
	}
	sameF, sameP, sameV, sameRandom := arguments()
	if !reflect.DeepEqual(f, sameF) || !reflect.DeepEqual(p, sameP) || !reflect.DeepEqual(v, sameV) || !slices.Equal(random, sameRandom) {
		t.Error("the arguments have changed")
	}
	if again, _ := release.Permitted(f, p, v.Public, random); again[0] != 0 {
		t.Error("a result has changed what is returned later")
	}
}
