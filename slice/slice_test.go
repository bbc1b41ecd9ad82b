package slice_test

import (
	"math"
	"reflect"
	"slices"
	"testing"

	"keyhole/api"
	"keyhole/flat"
	"keyhole/slice"
)

// example is the program of the chapter's examples.
func example() api.Flat {
	x, y, z, w := 0, 1, 2, 3
	return api.Flat{
		Vars: []api.Var{{Name: "x", Kind: api.Secret, High: 1}, {Name: "y", High: 1}, {Name: "z", High: 2}, {Name: "w"}},
		Body: []api.Step{set(y, ref(x)), set(z, lit(2)), test(ref(y), []api.Step{set(z, lit(1))}, nil), output(ref(z)), output(ref(w))},
	}
}

// answers are the results of all functions for a program and lists of steps.
type answers struct {
	backward, forward, chop, needs []int
	isClosed                       bool
	program                        api.Flat
}

// ask returns the results, and the codes of the functions.
func ask(f api.Flat, steps, to []int) (a answers, codes []api.Code) {
	codes = make([]api.Code, 6)
	a.backward, codes[0] = slice.Backward(f, steps)
	a.forward, codes[1] = slice.Forward(f, steps)
	a.chop, codes[2] = slice.Chop(f, steps, to)
	a.needs, codes[3] = slice.Needs(f, steps)
	a.isClosed, codes[4] = slice.Closed(f, steps)
	a.program, codes[5] = slice.Program(f, steps)
	return a, codes
}

// good returns the results, for which all codes must be OK.
func good(t *testing.T, f api.Flat, steps, to []int) answers {
	t.Helper()
	a, codes := ask(f, steps, to)
	if slices.ContainsFunc(codes, func(code api.Code) bool { return code != api.OK }) {
		t.Fatalf("codes %v for %v, %v: %+v", codes, steps, to, f)
	}
	return a
}

func TestP24_1Examples(t *testing.T) {
	f := example()
	if got := good(t, f, []int{4}, nil); !slices.Equal(got.backward, []int{0, 1, 2, 3, 4}) || !slices.Equal(got.needs, []int{0}) {
		t.Errorf("of the step 4: %+v", got)
	}
	if got := good(t, f, []int{5}, nil); !slices.Equal(got.backward, []int{5}) || !slices.Equal(got.needs, []int{3}) || !flat.Equal(got.program, api.Flat{Vars: f.Vars, Body: []api.Step{output(ref(3))}}) || !got.isClosed {
		t.Errorf("of the step 5: %+v", got)
	}
	if got := good(t, f, []int{0}, []int{4}); !slices.Equal(got.forward, []int{0, 2, 3, 4}) || !slices.Equal(got.chop, []int{0, 2, 3, 4}) {
		t.Errorf("of the step 0: %+v", got)
	}
	if got := good(t, f, []int{4, 3, 4, 2, 1, 3}, nil); got.isClosed {
		t.Errorf("without the step 0: %+v", got)
	}
	if got := good(t, f, []int{4, 3, 4, 2, 1, 0, 3}, nil); !got.isClosed {
		t.Errorf("with the step 0: %+v", got)
	}
}

func TestP24_1Slices(t *testing.T) {
	source := newGenerator(241)
	sizes, needs, closed := 0, 0, map[bool]int{}
	check := func(f api.Flat, m model, steps, to []int) {
		t.Helper()
		got := good(t, f, steps, to)
		if want := m.backward(steps); !slices.Equal(got.backward, want) {
			t.Fatalf("Backward of %v = %v, want %v: %+v", steps, got.backward, want, f)
		}
		if want := m.forward(steps); !slices.Equal(got.forward, want) {
			t.Fatalf("Forward of %v = %v, want %v: %+v", steps, got.forward, want, f)
		}
		if want := m.chop(steps, to); !slices.Equal(got.chop, want) {
			t.Fatalf("Chop from %v to %v = %v, want %v: %+v", steps, to, got.chop, want, f)
		}
		if want := m.needs(steps); !slices.Equal(got.needs, want) {
			t.Fatalf("Needs of %v = %v, want %v: %+v", steps, got.needs, want, f)
		}
		if want := m.isClosed(steps); got.isClosed != want {
			t.Fatalf("Closed of %v = %v: %+v", steps, got.isClosed, f)
		}
		sizes += len(got.backward) + len(got.forward) + len(got.chop)
		needs += len(got.needs)
		closed[got.isClosed]++
	}
	each(t, 1000, func(f api.Flat) {
		m := newModel(f)
		n := len(m.all)
		for _, i := range source.Perm(n)[:min(n, 5)] {
			check(f, m, []int{i}, []int{n - 1 - i})
		}
		check(f, m, source.some(n), source.some(n))
		back := m.backward(source.some(n))
		slices.Reverse(back)
		check(f, m, append(back, back...), nil)
	})
	if sizes < 50000 || needs < 10000 || closed[true] < 2000 || closed[false] < 2000 {
		t.Errorf("%d steps, %d variables, closed %v", sizes, needs, closed)
	}
}

// TestP24_1Starts has values at the start that reach a reader, or are overwritten on all paths or on some.
func TestP24_1Starts(t *testing.T) {
	x, y := 0, 1
	for i, c := range []struct {
		body []api.Step
		of   int
		want []int
	}{
		{[]api.Step{output(ref(y))}, 0, []int{y}}, {[]api.Step{set(y, lit(1)), output(ref(y))}, 1, nil}, {[]api.Step{output(lit(3))}, 0, nil}, {[]api.Step{set(y, ref(x))}, 0, []int{x}},
		{[]api.Step{test(ref(x), []api.Step{set(y, lit(1))}, nil), output(ref(y))}, 2, []int{x, y}}, {[]api.Step{test(lit(1), []api.Step{set(y, lit(1))}, []api.Step{set(y, lit(0))}), output(ref(y))}, 3, nil},
		{[]api.Step{loop(2, ref(y), []api.Step{set(y, lit(0))})}, 0, []int{y}}, {[]api.Step{set(y, lit(1)), loop(2, ref(y), []api.Step{set(y, lit(0))})}, 1, nil}, {[]api.Step{loop(2, ref(y), []api.Step{set(y, lit(0))})}, 1, []int{y}},
		{[]api.Step{loop(0, lit(0), []api.Step{set(y, lit(1))}), output(ref(y))}, 2, []int{y}},
		// A release needs the inputs of its hatch, though it reads no variable.
		{[]api.Step{release(y, 0), output(ref(y))}, 1, []int{x}}, {[]api.Step{release(y, 0)}, 0, []int{x}}, {[]api.Step{test(ref(y), []api.Step{release(y, 0)}, nil)}, 1, []int{x, y}}, {[]api.Step{release(y, 0), set(y, lit(1)), output(ref(y))}, 2, nil},
	} {
		f := api.Flat{Vars: []api.Var{{Name: "x", Kind: api.Secret, High: 1}, {Name: "y", High: 1}}, Hatches: []api.Hatch{{Name: "h", High: 1, Term: ref(x)}}, Body: c.body}
		if got := good(t, f, []int{c.of}, nil); !slices.Equal(got.needs, c.want) {
			t.Errorf("%d: Needs = %v, want %v", i, got.needs, c.want)
		}
	}
}

func TestP24_1Errors(t *testing.T) {
	f := example()
	for code, broken := range map[api.Code]api.Flat{
		api.ErrLimit: {Vars: make([]api.Var, 65)}, api.ErrName: {Vars: make([]api.Var, 1)}, api.ErrArgument: {Body: []api.Step{{Do: 7}}}, api.ErrRange: {Body: []api.Step{{Do: api.Wait, Cost: -1}}},
	} {
		if got, codes := ask(broken, []int{-1}, []int{9}); !slices.Equal(codes, slices.Repeat([]api.Code{code}, 6)) || !reflect.ValueOf(got).IsZero() {
			t.Errorf("%+v, %v, want %d", got, codes, code)
		}
	}
	for _, steps := range [][]int{{-1}, {6}, {0, 1, 2, 3, 4, 5, 6}, {math.MinInt}, {0, math.MaxInt, 0}} {
		if got, codes := ask(f, steps, nil); !slices.Equal(codes, slices.Repeat([]api.Code{api.ErrRange}, 6)) || !reflect.ValueOf(got).IsZero() {
			t.Errorf("%v: %+v, %v", steps, got, codes)
		}
		if got, code := slice.Chop(f, nil, steps); code != api.ErrRange || len(got) > 0 {
			t.Errorf("Chop to %v = %v, %d", steps, got, code)
		}
	}
	if got := good(t, api.Flat{}, nil, nil); !reflect.DeepEqual(got, answers{isClosed: true}) {
		t.Errorf("of nothing: %+v", got)
	}
	if _, codes := ask(api.Flat{}, []int{0}, nil); codes[0] != api.ErrRange || codes[5] != api.ErrRange {
		t.Errorf("of nothing: %v", codes)
	}
}

// union returns the members of both lists in ascending order.
func union(a, b []int) []int {
	all := slices.Concat(a, b)
	slices.Sort(all)
	return slices.Compact(all)
}

func TestP24_2Laws(t *testing.T) {
	source := newGenerator(242)
	each(t, 300, func(f api.Flat) {
		n := flat.Size(f)
		var backs, forths [][]int
		for i := range n {
			got := good(t, f, []int{i}, nil)
			backs, forths = append(backs, got.backward), append(forths, got.forward)
		}
		for s := range n {
			for i := range n {
				if slices.Contains(backs[i], s) != slices.Contains(forths[s], i) {
					t.Fatalf("%d and %d: %v, %v: %+v", s, i, backs[i], forths[s], f)
				}
			}
		}
		a, b := source.some(n), source.some(n)
		ofA, ofB, ofBoth := good(t, f, a, nil), good(t, f, b, nil), good(t, f, slices.Concat(a, b), nil)
		if !slices.Equal(ofBoth.backward, union(ofA.backward, ofB.backward)) || !slices.Equal(ofBoth.forward, union(ofA.forward, ofB.forward)) {
			t.Fatalf("%v and %v: %+v, %+v, %+v: %+v", a, b, ofA, ofB, ofBoth, f)
		}
		if !slices.Equal(union(ofA.backward, a), ofA.backward) || !slices.Equal(union(ofA.forward, a), ofA.forward) {
			t.Fatalf("%v: %+v: %+v", a, ofA, f)
		}
		again, forth := good(t, f, ofA.backward, nil), good(t, f, ofA.forward, nil)
		if !slices.Equal(again.backward, ofA.backward) || !slices.Equal(forth.forward, ofA.forward) || !again.isClosed {
			t.Fatalf("%v: %+v, %+v, %+v: %+v", a, ofA, again, forth, f)
		}
		m := newModel(f)
		for _, step := range ofA.backward {
			for around := range n {
				if m.isAround(around, step) && !slices.Contains(ofA.backward, around) {
					t.Fatalf("%v is without the step %d around %d: %+v", ofA.backward, around, step, f)
				}
			}
		}
	})
}

func TestP24_3Program(t *testing.T) {
	source := newGenerator(243)
	removed := 0
	check := func(f api.Flat, keep []int) {
		t.Helper()
		got, code := slice.Program(f, keep)
		if want := (model{f: f}).program(keep); !flat.Equal(got, want) || flat.Check(got) != api.OK || code != api.OK {
			t.Fatalf("Program of %v = %+v, %d, want %+v: %+v", keep, got, code, want, f)
		}
		removed += flat.Size(f) - flat.Size(got)
	}
	each(t, 1000, func(f api.Flat) {
		n := flat.Size(f)
		all := source.Perm(n)
		if got, code := slice.Program(f, all); !flat.Equal(got, f) || code != api.OK {
			t.Fatalf("Program of all steps = %+v, %d: %+v", got, code, f)
		}
		check(f, nil)
		check(f, append(all, all...))
		for i := range n { // without one step
			check(f, slices.DeleteFunc(source.Perm(n), func(step int) bool { return step == i }))
		}
		check(f, source.some(n))
		check(f, all[:source.Intn(n+1)])
	})
	if removed < 20000 {
		t.Errorf("%d steps are removed", removed)
	}
}

// TestP24_3Limits has a program with as many steps as there may be, some of them as deep as they may be.
func TestP24_3Limits(t *testing.T) {
	f := api.Flat{Vars: vars(), Hatches: hatches()}
	for range api.MaxDepth {
		f.Body = []api.Step{loop(1, lit(1), f.Body), {Do: api.Wait, Cost: 1}}
	}
	for flat.Size(f) < (api.MaxNodes-4)/2-1 { // the hatches have 4 nodes
		f.Body = append(f.Body, set(1, lit(1)))
	}
	f.Body = append(f.Body, api.Step{Do: api.Settle, Bounds: []int{1}})
	n := flat.Size(f)
	var odd []int
	for i := 1; i < n; i += 2 {
		odd = append(odd, i)
	}
	for _, keep := range [][]int{nil, {n - 1}, {0, n - 1}, odd, {11, 10, 9, 8, 7, 6, 5, 4, 3, 2, 1, 0}} {
		got, code := slice.Program(f, keep)
		if want := (model{f: f}).program(keep); !flat.Equal(got, want) || flat.Check(got) != api.OK || code != api.OK {
			t.Errorf("Program of %d steps has %d steps and the code %d", len(keep), flat.Size(got), code)
		}
	}
}

// outputsOf returns the Output steps of f.
func outputsOf(f api.Flat) []int {
	return chosen(flat.Size(f), func(i int) bool {
		s, _ := flat.At(f, i)
		return s.Do == api.Output
	})
}

// withOutputs returns f without the Output steps that are not in a list.
func withOutputs(t *testing.T, f api.Flat, kept []int) api.Flat {
	t.Helper()
	outputs := outputsOf(f)
	slices.Reverse(outputs)
	for _, i := range outputs {
		var code api.Code
		if !slices.Contains(kept, i) {
			f, code = flat.Remove(f, i)
		}
		if code != api.OK {
			t.Fatalf("Remove = %d", code)
		}
	}
	return f
}

func TestP24_4Outputs(t *testing.T) {
	source := newGenerator(244)
	outputs, removed := 0, 0
	check := func(f api.Flat, steps []int) {
		t.Helper()
		keep := good(t, f, steps, nil).backward
		less := good(t, f, keep, nil)
		same := withOutputs(t, f, keep)
		if !less.isClosed {
			t.Fatalf("%v is not closed: %+v", keep, f)
		}
		for _, in := range allInputs() {
			want, code := flat.Run(same, in)
			got, other := flat.Run(less.program, in)
			if !slices.Equal(got.Outputs, want.Outputs) || code != api.OK || other != api.OK {
				t.Fatalf("Run = %v, want %v: %v, keep %v, %+v", got, want, in, keep, f)
			}
			outputs += len(got.Outputs)
		}
		removed += flat.Size(same) - flat.Size(less.program)
	}
	each(t, 800, func(f api.Flat) {
		all := outputsOf(f)
		check(f, all)
		if len(all) > 0 {
			check(f, []int{all[source.Intn(len(all))]})
		}
		check(f, source.some(flat.Size(f)))
	})
	if outputs < 50000 || removed < 3000 {
		t.Errorf("%d outputs, %d steps are removed", outputs, removed)
	}
}

func TestP24_5Needs(t *testing.T) {
	source := newGenerator(245)
	free, bound := 0, 0
	each(t, 800, func(f api.Flat) {
		var steps []int
		for _, i := range outputsOf(f) {
			if source.Intn(2) == 0 {
				steps = append(steps, i)
			}
		}
		needs := good(t, f, steps, nil).needs
		only := withOutputs(t, f, steps)
		first := map[[4]int][]int{}
		for _, in := range allInputs() {
			var key [4]int
			for i, value := range []int{in.Secret[0], in.Public[0], in.Secret[1], in.Random[0]} {
				if slices.Contains(needs, inputs[i]) {
					key[i] = value
				}
			}
			seen, code := flat.Run(only, in)
			if other, ok := first[key]; ok && !slices.Equal(seen.Outputs, other) || code != api.OK {
				t.Fatalf("Run = %v, %d, for other inputs that are not needed %v: %v, %v, %+v", seen, code, other, in, steps, f)
			}
			first[key] = seen.Outputs
		}
		for _, v := range inputs {
			if len(steps) == 0 {
				continue
			}
			if slices.Contains(needs, v) {
				bound++
			} else {
				free++
			}
		}
	})
	if free < 1000 || bound < 500 {
		t.Errorf("%d inputs are needed, %d are not", bound, free)
	}
}

// TestMemory expects that arguments stay as they are, and that results share no memory with them or with later ones.
func TestMemory(t *testing.T) {
	source := newGenerator(24)
	for range 200 {
		f := source.program()
		n := flat.Size(f)
		for _, steps := range [][]int{source.Perm(n), source.some(n)} {
			text, kept := flat.Text(f), slices.Clone(steps)
			first, second := good(t, f, steps, steps), good(t, f, steps, steps)
			if !reflect.DeepEqual(first, second) {
				t.Fatalf("the results differ: %+v, %+v", first, second)
			}
			for _, list := range [][]int{first.backward, first.forward, first.chop, first.needs} {
				spoil(reflect.ValueOf(list))
			}
			spoil(reflect.ValueOf(first.program))
			if flat.Text(f) != text || !slices.Equal(steps, kept) || !reflect.DeepEqual(good(t, f, steps, steps), second) {
				t.Fatalf("something is shared: %+v", f)
			}
		}
	}
}

// spoil changes all numbers in a value.
func spoil(v reflect.Value) {
	switch v.Kind() {
	case reflect.Struct:
		for i := range v.NumField() {
			spoil(v.Field(i))
		}
	case reflect.Slice:
		for i := range v.Len() {
			spoil(v.Index(i))
		}
	case reflect.Int:
		if v.CanSet() {
			v.SetInt(-77)
		}
	}
}
