package flowtype_test

import (
	"math"
	"reflect"
	"slices"
	"strconv"
	"testing"

	"keyhole/api"
	"keyhole/flat"
	"keyhole/flowtype"
	"keyhole/policy"
	"keyhole/sample"
)

// twoLevels is a policy with the levels low, of the observer, and high.
func twoLevels() api.Policy { return sample.Lattices()[0] }

// sameTyping reports whether two typings are equal; nil lists are empty ones.
func sameTyping(a, b api.Typing) bool {
	return a.Accepted == b.Accepted && slices.Equal(a.Faults, b.Faults) && a.Time == b.Time && slices.Equal(a.Final, b.Final)
}

// check returns the typing that Check returns.
func check(t *testing.T, f api.Flat, p api.Policy) api.Typing {
	t.Helper()
	typing, code := flowtype.Check(f, p)
	if code != api.OK {
		t.Fatalf("Check = %d: %+v, %+v", code, f, p)
	}
	return typing
}

func TestP25_1Examples(t *testing.T) {
	f := api.Flat{
		Vars:    []api.Var{{Name: "x", Kind: api.Secret, High: 1}, {Name: "y", High: 1}},
		Hatches: []api.Hatch{{Name: "h", High: 1, Term: ref(0)}},
		Body:    []api.Step{test(ref(0), []api.Step{set(1, lit(1))}, nil), output(ref(1))},
	}
	p := twoLevels()
	if got, want := check(t, f, p), (api.Typing{Faults: []int{2}, Final: []int{1, 1}}); !sameTyping(got, want) {
		t.Errorf("Check = %+v, want %+v", got, want)
	}
	p.Observer = 1
	if got, want := check(t, f, p), (api.Typing{Accepted: true, Final: []int{1, 1}}); !sameTyping(got, want) {
		t.Errorf("Check = %+v, want %+v", got, want)
	}
	f.Body[0].Then[0].Cost = 1
	p.Observer = 0
	if got, want := check(t, f, p), (api.Typing{Faults: []int{2}, Time: 1, Final: []int{1, 1}}); !sameTyping(got, want) {
		t.Errorf("Check = %+v, want %+v", got, want)
	}
	p.Hatches = []api.Label{{Name: "h"}}
	f.Body = []api.Step{release(1, 0), output(ref(1))}
	if got, want := check(t, f, p), (api.Typing{Accepted: true, Final: []int{1, 0}}); !sameTyping(got, want) {
		t.Errorf("Check = %+v, want %+v", got, want)
	}
}

// TestP25_1Steps has the rule of each kind of step. The variables are x (secret), y, z and w (local).
func TestP25_1Steps(t *testing.T) {
	x, y, z := ref(0), ref(1), ref(2)
	p := twoLevels()
	p.Hatches = []api.Label{{Name: "h", Level: 0}, {Name: "k", Level: 1}}
	for i, c := range []struct {
		body   []api.Step
		faults []int
		time   int
		final  []int
	}{
		{nil, nil, 0, []int{1, 0, 0, 0}},
		{[]api.Step{output(x), output(lit(1)), output(y)}, []int{0}, 0, []int{1, 0, 0, 0}},
		{[]api.Step{set(1, op(api.OpAdd, x, z)), set(2, y), output(z), set(2, lit(0)), output(z)}, []int{2}, 0, []int{1, 1, 0, 0}},
		{[]api.Step{release(1, 1), release(2, 0), output(y), output(z)}, []int{2}, 0, []int{1, 1, 0, 0}},
		{[]api.Step{test(x, []api.Step{release(1, 0), output(lit(1))}, []api.Step{output(lit(1))})}, []int{2, 3}, 0, []int{1, 1, 0, 0}},
		// Each branch assigns what it does, and the other one leaves it as it was.
		{[]api.Step{set(1, x), test(z, []api.Step{set(1, lit(0))}, []api.Step{set(2, y), set(1, z)}), output(y)}, []int{5}, 0, []int{1, 1, 1, 0}},
		{[]api.Step{set(1, x), test(z, []api.Step{set(1, lit(0))}, []api.Step{set(1, lit(1))}), output(y)}, nil, 0, []int{1, 0, 0, 0}},
		{[]api.Step{test(lit(1), []api.Step{wait(1)}, nil), test(x, []api.Step{wait(1)}, []api.Step{wait(1)})}, nil, 0, []int{1, 0, 0, 0}},
		{[]api.Step{test(x, []api.Step{wait(1)}, nil)}, nil, 1, []int{1, 0, 0, 0}},
		{[]api.Step{test(x, []api.Step{test(y, []api.Step{wait(1)}, nil)}, []api.Step{test(y, []api.Step{wait(1)}, nil)})}, nil, 1, []int{1, 0, 0, 0}},
		// What a branch or a loop inside a high one does to the time is high.
		{[]api.Step{test(x, []api.Step{loop(0, y)}, nil)}, nil, 1, []int{1, 0, 0, 0}},
		{[]api.Step{loop(2, x)}, nil, 1, []int{1, 0, 0, 0}}, {[]api.Step{loop(0, x, output(y))}, []int{1}, 1, []int{1, 0, 0, 0}}, {[]api.Step{loop(2, y)}, nil, 0, []int{1, 0, 0, 0}},
		{[]api.Step{loop(2, lit(1), test(x, []api.Step{wait(1)}, nil))}, nil, 1, []int{1, 0, 0, 0}},
		{[]api.Step{loop(2, lit(1), test(x, []api.Step{wait(1)}, []api.Step{wait(1)}))}, nil, 0, []int{1, 0, 0, 0}},
		// The condition of the loop becomes high only in its third round, and with it all that the loop does.
		{[]api.Step{loop(0, y, output(lit(1)), set(1, z), set(2, ref(3)), set(3, x)), output(lit(1))}, []int{1}, 1, []int{1, 1, 1, 1}},
		{[]api.Step{loop(2, lit(1), output(y), output(z), set(1, z), set(2, x), output(y), set(2, lit(0))), output(z)}, nil, 0, []int{1, 0, 0, 0}},
		{[]api.Step{loop(2, lit(1), output(y), output(z), set(1, z), set(2, x), output(y)), output(z)}, []int{1, 2, 5, 6}, 0, []int{1, 1, 1, 0}},
		{[]api.Step{set(1, x), loop(2, lit(0), set(1, lit(0))), output(y)}, []int{3}, 0, []int{1, 1, 0, 0}},
		{[]api.Step{loop(2, x, set(1, lit(1))), settle(0, 9)}, nil, 0, []int{1, 1, 0, 0}},
		{[]api.Step{test(x, []api.Step{wait(5)}, nil), settle(0, 5, 6)}, nil, 0, []int{1, 0, 0, 0}},
		{[]api.Step{test(x, []api.Step{wait(5)}, nil), settle(1, 5, 6)}, nil, 1, []int{1, 0, 0, 0}},
		{[]api.Step{test(x, []api.Step{wait(5)}, nil), settle(0, 4, 5)}, nil, 1, []int{1, 0, 0, 0}},
	} {
		f := api.Flat{
			Vars:    []api.Var{{Name: "x", Kind: api.Secret, High: 1}, {Name: "y", High: 1}, {Name: "z", High: 1}, {Name: "w", High: 1}},
			Hatches: []api.Hatch{{Name: "h", High: 1, Term: x}, {Name: "k", High: 1, Term: x}},
			Body:    c.body,
		}
		for _, isTimed := range []bool{false, true} {
			p.Timed = isTimed
			want := api.Typing{Accepted: len(c.faults) == 0 && !(isTimed && c.time > 0), Faults: c.faults, Time: c.time, Final: c.final}
			if got := check(t, f, p); !sameTyping(got, want) {
				t.Errorf("%d: Check = %+v, want %+v", i, got, want)
			}
		}
	}
}

func TestP25_1Model(t *testing.T) {
	faults, times, accepted := 0, 0, 0
	each(t, 3000, func(f api.Flat, p api.Policy) {
		want := newModel(f, p).typing
		got, code := flowtype.Check(f, p)
		if !sameTyping(got, want) || code != api.OK {
			t.Fatalf("Check = %+v, %d, want %+v: %+v\n%s", got, code, want, p, flat.Text(f))
		}
		faults += len(got.Faults)
		if isLow, _ := policy.Below(p, got.Time, p.Observer); !isLow {
			times++
		}
		if got.Accepted {
			accepted++
		}
	})
	if faults < 500 || times < 300 || accepted < 1000 {
		t.Errorf("%d faults, %d times, %d accepted", faults, times, accepted)
	}
}

func TestP25_2Examples(t *testing.T) {
	p := twoLevels()
	f := api.Flat{
		Vars: []api.Var{{Name: "x", Kind: api.Secret, High: 1}, {Name: "y", High: 1}, {Name: "z", High: 1}},
		Body: []api.Step{set(1, lit(0)), loop(1, ref(1), test(ref(0), []api.Step{set(2, lit(1))}, nil), set(1, ref(2)), set(2, lit(0))), output(ref(1))},
	}
	levels, code := flowtype.Levels(f, p)
	if want := [][]int{{1, 0, 0}, {1, 1, 1}, {1, 1, 1}, {1, 1, 1}, {1, 1, 1}, {1, 1, 1}, {1, 1, 1}}; !reflect.DeepEqual(levels, want) || code != api.OK {
		t.Errorf("Levels = %v, %d, want %v", levels, code, want)
	}
	counters, code := flowtype.Counters(f, p)
	if want := []int{0, 0, 1, 1, 1, 1, 0}; !slices.Equal(counters, want) || code != api.OK {
		t.Errorf("Counters = %v, %d, want %v", counters, code, want)
	}
	if levels, code := flowtype.Levels(api.Flat{}, p); len(levels) > 0 || code != api.OK {
		t.Errorf("Levels = %v, %d", levels, code)
	}
	if counters, code := flowtype.Counters(api.Flat{}, p); len(counters) > 0 || code != api.OK {
		t.Errorf("Counters = %v, %d", counters, code)
	}
}

func TestP25_2Model(t *testing.T) {
	each(t, 2000, func(f api.Flat, p api.Policy) {
		want := newModel(f, p)
		levels, code := flowtype.Levels(f, p)
		if !slices.EqualFunc(levels, want.levels, slices.Equal) || code != api.OK {
			t.Fatalf("Levels = %v, %d, want %v: %+v\n%s", levels, code, want.levels, p, flat.Text(f))
		}
		counters, code := flowtype.Counters(f, p)
		if !slices.Equal(counters, want.counters) || code != api.OK {
			t.Fatalf("Counters = %v, %d, want %v: %+v\n%s", counters, code, want.counters, p, flat.Text(f))
		}
	})
}

func TestP25_3Even(t *testing.T) {
	uneven := test(ref(0), []api.Step{wait(1)}, nil)
	for i, c := range []struct {
		steps []api.Step
		want  bool
	}{
		{nil, true}, {[]api.Step{wait(1), set(0, lit(1))}, true}, {[]api.Step{uneven}, false}, {[]api.Step{wait(1), uneven, wait(2)}, false},
		{[]api.Step{loop(2, lit(1), wait(1))}, true}, {[]api.Step{loop(2, ref(0))}, true}, {[]api.Step{loop(2, ref(0), wait(1))}, false}, {[]api.Step{loop(0, ref(0), wait(1))}, true},
		{[]api.Step{loop(2, lit(0), uneven)}, true}, {[]api.Step{loop(2, lit(1), uneven)}, false}, {[]api.Step{loop(0, lit(1), uneven)}, true},
		// Steps that are not valid.
		{[]api.Step{{Do: 9, Cost: math.MinInt, Then: []api.Step{uneven}}}, true}, {[]api.Step{test(ref(-1), []api.Step{wait(-5)}, nil)}, true},
		{[]api.Step{test(lit(1), []api.Step{wait(math.MaxInt)}, []api.Step{wait(api.MaxTime + 1)})}, true}, {[]api.Step{test(lit(1), []api.Step{wait(math.MaxInt)}, []api.Step{wait(api.MaxTime)})}, false},
		{[]api.Step{wait(math.MaxInt), uneven}, true}, {[]api.Step{loop(math.MinInt, ref(0), uneven)}, true}, {[]api.Step{loop(math.MaxInt, ref(0), uneven)}, false},
	} {
		if got := flowtype.Even(c.steps); got != c.want {
			t.Errorf("%d: Even = %t", i, got)
		}
	}
	source := newSource(3)
	count := 0
	for range 3000 {
		list := source.Steps(4, 3)
		low, high := flat.Span(list)
		if got := flowtype.Even(list); got != (low == high) {
			t.Fatalf("Even = %t, and the time is from %d to %d", got, low, high)
		}
		if low != high {
			count++
		}
	}
	if count < 300 {
		t.Errorf("%d steps without constant time", count)
	}
}

func TestP25_4Faults(t *testing.T) {
	each(t, 1000, func(f api.Flat, p api.Policy) {
		levels, _ := flowtype.Levels(f, p)
		counters, _ := flowtype.Counters(f, p)
		isHidden := func(level int) bool {
			is, _ := policy.Below(p, level, p.Observer)
			return !is
		}
		var want []int
		for at := range flat.Size(f) {
			s, _ := flat.At(f, at)
			isFault := isHidden(counters[at])
			for v := range f.Vars {
				isFault = isFault || isTouched(s.Term, bits(1)<<v) && isHidden(levels[at][v])
			}
			if s.Do == api.Output && isFault {
				want = append(want, at)
			}
		}
		if got := check(t, f, p).Faults; !slices.Equal(got, want) {
			t.Fatalf("the faults are %v, want %v: %+v\n%s", got, want, p, flat.Text(f))
		}
	})
}

// known returns what the observer may know of the inputs: those that are visible, and the values of released hatches.
func known(f api.Flat, p api.Policy, in api.Inputs) string {
	visible, _ := policy.Visible(f, p)
	released, _ := policy.Released(f, p)
	start, _ := flat.Final(api.Flat{Vars: f.Vars}, in)
	var text []byte
	for v, value := range start {
		if visible[v] {
			text = strconv.AppendInt(append(text, 'v'), int64(value), 10)
		}
	}
	for h, value := range sample.HatchValues(in) {
		if released[h] {
			text = strconv.AppendInt(append(text, 'h'), int64(value), 10)
		}
	}
	return string(text)
}

func TestP25_5Accepted(t *testing.T) {
	pairs, refused := 0, 0
	each(t, 6000, func(f api.Flat, p api.Policy) {
		if !check(t, f, p).Accepted {
			refused++
			return
		}
		seen := map[string]api.Observation{}
		for _, in := range sample.AllInputs() {
			run, code := flat.Run(f, in)
			if code != api.OK {
				t.Fatal(code)
			}
			run = flat.Seen(run, p.Timed)
			key := known(f, p, in)
			if other, ok := seen[key]; ok {
				pairs++
				if flat.Compare(run, other) != 0 {
					t.Fatalf("accepted, and there are the observations %v and %v: %+v\n%s", run, other, p, flat.Text(f))
				}
			}
			seen[key] = run
		}
	})
	if pairs < 20000 || refused < 500 {
		t.Errorf("%d pairs, %d programs refused", pairs, refused)
	}
}

func TestP25_6Observers(t *testing.T) {
	fewer := 0
	each(t, 1000, func(f api.Flat, p api.Policy) {
		faults := make([][]int, len(p.Levels))
		accepted := make([]bool, len(p.Levels))
		for level := range p.Levels {
			p.Observer = level
			typing := check(t, f, p)
			faults[level], accepted[level] = typing.Faults, typing.Accepted
		}
		for a := range p.Levels {
			isGreatest := true
			for b := range p.Levels {
				isBelow, _ := policy.Below(p, a, b)
				isAbove, _ := policy.Below(p, b, a)
				isGreatest = isGreatest && isAbove
				isMore := slices.ContainsFunc(faults[b], func(at int) bool { return !slices.Contains(faults[a], at) })
				if isBelow && (isMore || accepted[a] && !accepted[b]) {
					t.Fatalf("the observer %d has the faults %v, %d has %v", a, faults[a], b, faults[b])
				}
				if isBelow && len(faults[b]) < len(faults[a]) {
					fewer++
				}
			}
			if isGreatest && !accepted[a] {
				t.Fatalf("not accepted for the greatest level: %+v\n%s", p, flat.Text(f))
			}
		}
	})
	if fewer < 300 {
		t.Errorf("%d times fewer faults", fewer)
	}
}

func TestP25_7Settle(t *testing.T) {
	count := 0
	each(t, 1500, func(f api.Flat, p api.Policy) {
		f.Body = slices.DeleteFunc(slices.Clone(f.Body), func(s api.Step) bool { return s.Do == api.Settle })
		before := check(t, f, p)
		levels, _ := flowtype.Levels(f, p)
		_, _, most, _ := flat.Bounds(f)
		bottom, _ := policy.Join(p, nil)
		for _, c := range []struct {
			last      api.Step
			isSettled bool
		}{{settle(0, most), true}, {settle(2, most+2, most+3), true}, {settle(0, most+7), true}, {settle(1, most), false}} {
			settled := f
			settled.Body = slices.Concat(f.Body, []api.Step{c.last})
			got := check(t, settled, p)
			want := before
			if c.isSettled {
				want.Time, want.Accepted = bottom, len(want.Faults) == 0
			}
			if !sameTyping(got, want) {
				t.Fatalf("with a Settle Check = %+v, want %+v: %+v\n%s", got, want, p, flat.Text(settled))
			}
			again, _ := flowtype.Levels(settled, p)
			if !slices.EqualFunc(again, append(slices.Clone(levels), got.Final), slices.Equal) {
				t.Fatalf("with a Settle Levels = %v, without it %v", again, levels)
			}
		}
		if before.Time != bottom {
			count++
		}
	})
	if count < 300 {
		t.Errorf("%d times that are not settled", count)
	}
}

// codes returns the codes of Check, Levels and Counters, whose results are zero if there is an error.
func codes(t *testing.T, f api.Flat, p api.Policy) [3]api.Code {
	t.Helper()
	typing, first := flowtype.Check(f, p)
	levels, second := flowtype.Levels(f, p)
	counters, third := flowtype.Counters(f, p)
	if first != api.OK && (typing.Accepted || typing.Time != 0 || len(typing.Faults)+len(typing.Final)+len(levels)+len(counters) > 0) {
		t.Errorf("with the code %d: %v, %v, %v", first, typing, levels, counters)
	}
	return [3]api.Code{first, second, third}
}

func TestP25_1Errors(t *testing.T) {
	inside := []api.Step{loop(0, lit(0), test(lit(0), nil, []api.Step{release(0, 1)}))}
	invalid := api.Flat{Vars: sample.Vars(), Body: []api.Step{output(ref(9))}}
	valid := api.Flat{Vars: sample.Vars(), Hatches: sample.Hatches()}
	released := api.Flat{Vars: sample.Vars(), Hatches: sample.Hatches(), Body: inside}
	label := func(inputs, hatch string) api.Policy {
		p := twoLevels()
		p.Inputs, p.Hatches = []api.Label{{Name: inputs}}, []api.Label{{Name: hatch}}
		return p
	}
	wrong := twoLevels()
	wrong.Observer = 2
	for i, c := range []struct {
		f    api.Flat
		p    api.Policy
		want api.Code
	}{
		{valid, twoLevels(), api.OK}, {valid, label("s", "h"), api.OK}, {released, label("s", "k"), api.OK},
		{invalid, twoLevels(), api.ErrArgument}, {valid, wrong, api.ErrArgument}, {valid, api.Policy{}, api.ErrArgument}, {invalid, label("x", "x"), api.ErrArgument},
		{valid, label("x", "h"), api.ErrName}, {valid, label("a", "h"), api.ErrName}, {valid, label("s", "x"), api.ErrName}, {released, label("s", "x"), api.ErrName}, {released, label("x", "k"), api.ErrName},
		{released, label("s", "h"), api.ErrPolicy}, {released, twoLevels(), api.ErrPolicy},
	} {
		if got := codes(t, c.f, c.p); got != [3]api.Code{c.want, c.want, c.want} {
			t.Errorf("%d: the codes are %v, want %d", i, got, c.want)
		}
	}
}

// nested returns loops in each other as deep as may be, each of which takes many rounds until its levels stand still, each time
// that it is met.
func nested() api.Flat {
	const depth, size = api.MaxDepth - 1, 5
	f := api.Flat{Vars: []api.Var{{Name: "x", Kind: api.Secret, High: 1}}}
	for i := range depth * size {
		f.Vars = append(f.Vars, api.Var{Name: "v" + strconv.Itoa(i), High: 1})
	}
	var inner []api.Step
	for d := range depth {
		var list, reset []api.Step
		first := 1 + d*size
		for i := range size - 1 {
			list = append(list, set(first+i, ref(first+i+1)))
			reset = append(reset, set(first+i, lit(0)))
		}
		list = append(list, set(first+size-1, ref(0)))
		reset = append(reset, set(first+size-1, lit(0)))
		// Outside of a loop its variables become low again.
		inner = append([]api.Step{loop(0, lit(1), slices.Concat(inner, list)...)}, reset...)
	}
	f.Body = inner[:1]
	return f
}

func TestP25_1Nested(t *testing.T) {
	f := nested()
	got := check(t, f, twoLevels())
	want := api.Typing{Accepted: true, Final: make([]int, len(f.Vars))}
	want.Final[0] = 1
	for i := range 5 {
		want.Final[len(f.Vars)-1-i] = 1
	}
	if !sameTyping(got, want) {
		t.Errorf("Check = %+v, want %+v", got, want)
	}
}

// TestP25_1Limits has as many levels and variables as there may be, which rise one after the other.
func TestP25_1Limits(t *testing.T) {
	var p api.Policy
	f := api.Flat{}
	for i := range api.MaxLevels {
		p.Levels = append(p.Levels, "l"+strconv.Itoa(i))
		f.Vars = append(f.Vars, api.Var{Name: "s" + strconv.Itoa(i), Kind: api.Secret, High: 1})
		p.Inputs = append(p.Inputs, api.Label{Name: "s" + strconv.Itoa(i), Level: i})
		if i > 0 {
			p.Order = append(p.Order, [2]int{i, i - 1})
		}
	}
	for i := len(f.Vars); i < api.MaxVars; i++ {
		f.Vars = append(f.Vars, api.Var{Name: "v" + strconv.Itoa(i), High: 1})
	}
	var body []api.Step
	for i := api.MaxLevels; i < api.MaxVars-1; i++ {
		term := ref(i + 1)
		if other := api.MaxLevels*2 - 1 - i; other >= 0 {
			term = op(api.OpMax, term, ref(other))
		}
		body = append(body, set(i, term))
	}
	body = append(body, set(api.MaxVars-1, ref(0)))
	f.Body = []api.Step{loop(1, ref(api.MaxLevels), body...), output(ref(api.MaxLevels))}
	got := check(t, f, p)
	if got.Accepted != true || got.Time != 0 || len(got.Final) != api.MaxVars || slices.Max(got.Final[api.MaxLevels:]) != 0 {
		t.Errorf("Check = %+v", got)
	}
	p.Observer = 1
	if got := check(t, f, p); !slices.Equal(got.Faults, []int{flat.Size(f) - 1}) || got.Accepted {
		t.Errorf("Check = %+v", got)
	}
	counters, _ := flowtype.Counters(f, p)
	if slices.Max(counters[1:len(counters)-1]) != 0 || counters[0] != api.MaxLevels-1 || counters[len(counters)-1] != api.MaxLevels-1 {
		t.Errorf("Counters = %v", counters)
	}
	many := api.Flat{Vars: f.Vars}
	for i := range api.MaxNodes / 2 {
		many.Body = append(many.Body, set(api.MaxLevels+i%8, lit(i)))
	}
	if got := check(t, many, p); !got.Accepted || !slices.Equal(got.Final[api.MaxLevels:], slices.Repeat([]int{api.MaxLevels - 1}, api.MaxVars-api.MaxLevels)) {
		t.Errorf("Check = %+v", got)
	}
}

func TestMemory(t *testing.T) {
	arguments := func() (api.Flat, api.Policy) {
		p := twoLevels()
		p.Inputs, p.Hatches = []api.Label{{Name: "s", Level: 1}}, []api.Label{{Name: "h"}}
		return api.Flat{Vars: sample.Vars(), Hatches: sample.Hatches(), Body: []api.Step{loop(2, ref(0), test(ref(1), []api.Step{set(0, ref(1))}, []api.Step{release(2, 0)}), output(ref(2)))}}, p
	}
	f, p := arguments()
	typing := check(t, f, p)
	levels, _ := flowtype.Levels(f, p)
	counters, _ := flowtype.Counters(f, p)
	sameF, sameP := arguments()
	if !reflect.DeepEqual(f, sameF) || !reflect.DeepEqual(p, sameP) {
		t.Error("the arguments have changed")
	}
	for i := range levels {
		if slices.Contains(levels[i], -7) {
			t.Error("the states share memory")
		}
		for v := range levels[i] {
			levels[i][v] = -7
		}
	}
	typing.Faults[0], typing.Final[0], counters[0] = -7, -7, -7
	again, _ := flowtype.Levels(f, p)
	if slices.ContainsFunc(again, func(row []int) bool { return slices.Contains(row, -7) }) {
		t.Error("a result has changed what is returned later")
	}
}
