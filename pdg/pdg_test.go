package pdg_test

import (
	"math"
	"reflect"
	"slices"
	"testing"

	"keyhole/api"
	"keyhole/flat"
	"keyhole/pdg"
	"keyhole/policy"
)

// example is the program of the chapter's examples.
func example() api.Flat {
	x, y, z := 0, 1, 2
	one := set(z, lit(1))
	one.Cost = 1
	return api.Flat{
		Vars:    []api.Var{{Name: "x", Kind: api.Secret, High: 1}, {Name: "y", High: 1}, {Name: "z", High: 1}},
		Hatches: []api.Hatch{{Name: "h", High: 1, Term: ref(x)}},
		Body:    []api.Step{set(y, ref(x)), test(ref(y), []api.Step{one}, nil), output(ref(z)), release(y, 0), output(ref(y))},
	}
}

func data(from, to int) api.Dep     { return api.Dep{From: from, To: to, Kind: api.DepData} }
func control(from, to int) api.Dep  { return api.Dep{From: from, To: to, Kind: api.DepControl} }
func released(from, to int) api.Dep { return api.Dep{From: from, To: to, Kind: api.DepRelease} }

// build returns the dependence graph that Build returns.
func build(t *testing.T, f api.Flat) api.Pdg {
	t.Helper()
	d, code := pdg.Build(f)
	if code != api.OK {
		t.Fatalf("Build = %d: %+v", code, f)
	}
	return d
}

func TestP23_1Examples(t *testing.T) {
	f := example()
	want := api.Pdg{Steps: 6, Vars: 3, Deps: []api.Dep{data(0, 1), control(1, 2), control(1, 9), data(2, 3), data(4, 5), data(6, 0), released(6, 4), data(8, 3)}}
	if d := build(t, f); !reflect.DeepEqual(d, want) {
		t.Errorf("Build = %v", d)
	}
	f.Body = append(f.Body, api.Step{Do: api.Settle, Bounds: []int{5}})
	if d := build(t, f); slices.ContainsFunc(d.Deps, func(dep api.Dep) bool { return dep.To == 7+3 }) {
		t.Errorf("Build = %v", d)
	}
}

func TestP23_1Build(t *testing.T) {
	kinds, times := map[api.DepKind]int{}, 0
	each(t, 1500, func(f api.Flat) {
		want := newModel(f).graph()
		d, code := pdg.Build(f)
		if d.Steps != want.Steps || d.Vars != want.Vars || !slices.Equal(d.Deps, want.Deps) || code != api.OK {
			t.Fatalf("Build = %v, %d, want %v: %+v", d, code, want, f)
		}
		for _, dep := range d.Deps {
			kinds[dep.Kind]++
			if dep.To == d.Steps+d.Vars {
				times++
			}
		}
	})
	if kinds[api.DepData] < 5000 || kinds[api.DepControl] < 5000 || kinds[api.DepRelease] < 2000 || times < 1000 {
		t.Errorf("%v dependences, %d of the time", kinds, times)
	}
}

// TestP23_1Time has steps on which the running time, the node behind the steps and two variables, depends or not.
func TestP23_1Time(t *testing.T) {
	x := ref(0)
	wait := func(cost int) api.Step { return api.Step{Do: api.Wait, Cost: cost} }
	settle := func(cost int, bounds ...int) api.Step { return api.Step{Do: api.Settle, Cost: cost, Bounds: bounds} }
	costly := test(x, nil, []api.Step{wait(3)})
	costly.Cost = 2
	rounds := loop(3, lit(1), []api.Step{wait(2)})
	rounds.Cost = 1
	for i, c := range []struct {
		body []api.Step
		want []int
	}{
		{nil, nil}, {[]api.Step{wait(9), set(1, x), output(x)}, nil},
		{[]api.Step{test(x, nil, nil)}, nil}, {[]api.Step{test(x, []api.Step{wait(0)}, nil)}, nil}, {[]api.Step{test(x, []api.Step{wait(2)}, []api.Step{wait(1), wait(1)})}, nil},
		{[]api.Step{test(x, []api.Step{wait(2)}, []api.Step{wait(1)})}, []int{0}}, {[]api.Step{test(lit(1), []api.Step{wait(2)}, []api.Step{wait(1)})}, []int{0}},
		// Branches with the same least and the same greatest time, which is not constant.
		{[]api.Step{test(x, []api.Step{costly}, []api.Step{costly})}, []int{0, 1, 3}}, {[]api.Step{test(x, []api.Step{costly}, nil), costly}, []int{0, 1, 3}},
		{[]api.Step{rounds}, nil}, {[]api.Step{loop(2, x, nil)}, []int{0}}, {[]api.Step{loop(0, x, nil)}, []int{0}}, {[]api.Step{loop(2, lit(0), []api.Step{wait(1)})}, nil},
		{[]api.Step{loop(2, lit(1), []api.Step{costly})}, []int{0, 1}}, {[]api.Step{loop(0, lit(1), []api.Step{costly})}, []int{0, 1}}, {[]api.Step{loop(2, op(api.OpNot, lit(0)), nil)}, []int{0}},
		{[]api.Step{test(x, []api.Step{rounds}, []api.Step{wait(9)})}, nil}, {[]api.Step{test(x, []api.Step{rounds}, []api.Step{wait(8)})}, []int{0}},
		// The greatest time of the Body is 5, the cost of the Settle included.
		{[]api.Step{costly, settle(0, 5)}, nil}, {[]api.Step{costly, settle(0, 6, 7)}, nil}, {[]api.Step{costly, settle(0, 4, 5)}, []int{0}}, {[]api.Step{costly, settle(1, 5)}, []int{0}}, {[]api.Step{costly, settle(1, 6)}, nil},
		{[]api.Step{settle(7, 0)}, nil}, {[]api.Step{test(x, []api.Step{rounds}, nil), costly, settle(0, 13)}, []int{0, 3}}, {[]api.Step{test(x, []api.Step{rounds}, nil), costly, settle(0, 14)}, nil},
	} {
		f := api.Flat{Vars: []api.Var{{Name: "x", Kind: api.Secret, High: 1}, {Name: "y", High: 1}}, Body: c.body}
		d := build(t, f)
		var got []int
		for _, dep := range d.Deps {
			if dep.To == d.Steps+2 && dep.Kind == api.DepControl {
				got = append(got, dep.From)
			}
		}
		if !slices.Equal(got, c.want) {
			t.Errorf("%d: the time depends on %v, want %v", i, got, c.want)
		}
	}
}

// TestP23_1Loops has steps that depend on themselves, and definitions that go round loops.
func TestP23_1Loops(t *testing.T) {
	for i, c := range []struct {
		body []api.Step
		want []api.Dep // with the variables 0, an input, and 1
	}{
		{[]api.Step{loop(2, ref(1), []api.Step{set(1, ref(1))})}, []api.Dep{control(0, 0), control(0, 1), control(0, 4), data(1, 0), data(1, 1), data(3, 0), data(3, 1)}},
		// The definition before the loop does not reach the inner loop, which stands behind another one.
		{[]api.Step{set(1, ref(0)), loop(2, lit(1), []api.Step{release(1, 0), loop(1, ref(1), nil), output(op(api.OpAdd, ref(1), ref(0)))})},
			[]api.Dep{control(1, 1), control(1, 2), control(1, 3), control(1, 4), data(2, 3), data(2, 4), control(3, 3), control(3, 7), data(5, 0), released(5, 2), data(5, 4)}},
		{[]api.Step{output(op(api.OpAdd, ref(1), ref(1)))}, []api.Dep{data(2, 0)}},
	} {
		f := api.Flat{Vars: []api.Var{{Name: "x", Kind: api.Public, High: 1}, {Name: "y", High: 1}}, Hatches: []api.Hatch{{Name: "h", High: 1, Term: op(api.OpAdd, ref(0), ref(0))}}, Body: c.body}
		if d := build(t, f); !slices.Equal(d.Deps, c.want) {
			t.Errorf("%d: Build = %v, want %v", i, d.Deps, c.want)
		}
	}
}

func TestP23_1Errors(t *testing.T) {
	for code, f := range map[api.Code]api.Flat{
		api.ErrLimit: {Vars: make([]api.Var, 65)}, api.ErrName: {Vars: make([]api.Var, 1)}, api.ErrArgument: {Body: []api.Step{{Do: 7}}},
		api.ErrRange: {Body: []api.Step{{Do: api.Wait, Cost: -1}}}, api.ErrDuplicate: {Vars: []api.Var{{Name: "x"}, {Name: "x"}}},
	} {
		if d, got := pdg.Build(f); got != code || !reflect.ValueOf(d).IsZero() {
			t.Errorf("Build = %v, %d, want %d", d, got, code)
		}
		if ins, hatches, got := pdg.Sources(f, -1); got != code || len(ins)+len(hatches) > 0 {
			t.Errorf("Sources = %v, %v, %d, want %d", ins, hatches, got, code)
		}
	}
}

// TestP23_1Limits has programs with as many steps and variables as there may be.
func TestP23_1Limits(t *testing.T) {
	var all []api.Var
	for i := range api.MaxVars {
		all = append(all, api.Var{Name: "v" + string(rune('a'+i/26)) + string(rune('a'+i%26)), High: 9})
	}
	body := []api.Step{}
	for i := range api.MaxNodes/4 - 1 {
		body = append(body, test(lit(1), []api.Step{set(i%api.MaxVars, lit(1))}, nil))
	}
	f := api.Flat{Vars: all, Body: append(body, output(op(api.OpAdd, ref(0), ref(63))))}
	d := build(t, f)
	steps := 2*(api.MaxNodes/4-1) + 1
	if d.Steps != steps || d.Vars != api.MaxVars || pdg.Check(d) != api.OK {
		t.Errorf("Build has %d steps", d.Steps)
	}
	ins, _ := pdg.Back(d, []int{steps - 1})
	count := 0
	for _, isMet := range ins {
		if isMet {
			count++
		}
	}
	// The output itself, the variables 0 and 63, their definitions and the Ifs around them.
	if want := 1 + 2 + 2*(4+3); count != want {
		t.Errorf("the output depends on %d nodes, want %d", count, want)
	}
}

func TestP23_2Check(t *testing.T) {
	var deps []api.Dep
	for from := -1; from <= 3; from++ {
		for to := -1; to <= 3; to++ {
			for kind := api.DepKind(-1); kind <= 3; kind++ {
				deps = append(deps, api.Dep{From: from, To: to, Kind: kind})
			}
		}
	}
	checkGraph := func(d api.Pdg) {
		want := checkModel(d)
		if code := pdg.Check(d); code != want {
			t.Fatalf("Check(%v) = %d, want %d", d, code, want)
		}
		g, code := pdg.Graph(d)
		if want != api.OK {
			if code != api.ErrArgument || g.Nodes != 0 || len(g.Edges) > 0 {
				t.Fatalf("Graph(%v) = %v, %d", d, g, code)
			}
			return
		}
		var edges [][2]int
		for _, dep := range d.Deps {
			edges = append(edges, [2]int{dep.From, dep.To})
		}
		if g.Nodes != d.Steps+d.Vars+1 || !slices.Equal(g.Edges, edges) || code != api.OK {
			t.Fatalf("Graph(%v) = %v, %d", d, g, code)
		}
	}
	for _, a := range deps {
		checkGraph(api.Pdg{Steps: 1, Vars: 1, Deps: []api.Dep{a}})
		for _, b := range deps {
			checkGraph(api.Pdg{Steps: 0, Vars: 2, Deps: []api.Dep{a, b}})
		}
	}
	for _, steps := range []int{math.MinInt, -1, 0, 1, 1024, 1025, math.MaxInt} {
		for _, vars := range []int{math.MinInt, -1, 0, 1, 64, 65, math.MaxInt} {
			for _, last := range []int{-1, 0, 1, 2, 1087, 1088, 1089, math.MaxInt} {
				checkGraph(api.Pdg{Steps: steps, Vars: vars})
				checkGraph(api.Pdg{Steps: steps, Vars: vars, Deps: []api.Dep{{From: 0, To: last, Kind: 9}}})
				checkGraph(api.Pdg{Steps: steps, Vars: vars, Deps: []api.Dep{{From: last, To: 0}}})
			}
		}
	}
	source := newGenerator(232)
	for range 3000 { // the first error counts
		d := api.Pdg{Steps: 2, Vars: 1}
		for range source.Intn(5) {
			d.Deps = append(d.Deps, deps[source.Intn(len(deps))])
		}
		if source.Intn(2) == 0 {
			slices.SortFunc(d.Deps, func(a, b api.Dep) int { return slices.Compare([]int{a.From, a.To}, []int{b.From, b.To}) })
		}
		checkGraph(d)
	}
	each(t, 300, func(f api.Flat) { checkGraph(build(t, f)) })
}

// randomGraph returns a valid graph with so many of a hundred possible dependences.
func (g generator) randomGraph(steps, vars, percent int) api.Pdg {
	d := api.Pdg{Steps: steps, Vars: vars}
	for from := range steps + vars + 1 {
		for to := range steps + vars + 1 {
			for kind := api.DepData; kind <= api.DepRelease; kind++ {
				if g.Intn(100) < percent {
					d.Deps = append(d.Deps, api.Dep{From: from, To: to, Kind: kind})
				}
			}
		}
	}
	return d
}

// checkClosures compares Back and Forth of some nodes with the closure.
func checkClosures(t *testing.T, d api.Pdg, nodes []int) {
	t.Helper()
	all := closure(d, api.DepData, api.DepControl, api.DepRelease)
	back, code := pdg.Back(d, nodes)
	forth, other := pdg.Forth(d, nodes)
	if code != api.OK || other != api.OK || len(back) != len(all) || len(forth) != len(all) {
		t.Fatalf("Back(%v, %v) = %v, %d, Forth = %v, %d", d, nodes, back, code, forth, other)
	}
	for i := range all {
		wantBack := slices.ContainsFunc(nodes, func(node int) bool { return all[i][node] })
		wantForth := slices.ContainsFunc(nodes, func(node int) bool { return all[node][i] })
		if back[i] != wantBack || forth[i] != wantForth {
			t.Fatalf("Back(%v, %v) = %v, Forth = %v", d, nodes, back, forth)
		}
	}
}

func TestP23_3Closures(t *testing.T) {
	source := newGenerator(233)
	for i := range 3000 {
		d := source.randomGraph(i%6, i%4, 1+i%15)
		last := d.Steps + d.Vars
		checkClosures(t, d, nil)
		checkClosures(t, d, []int{source.Intn(last + 1)})
		checkClosures(t, d, []int{source.Intn(last + 1), last, source.Intn(last + 1), last})
		for _, wrong := range []int{-1, last + 1, math.MinInt, math.MaxInt} {
			for _, ask := range []func(api.Pdg, []int) ([]bool, api.Code){pdg.Back, pdg.Forth} {
				if set, code := ask(d, []int{0, wrong}); code != api.ErrRange || len(set) > 0 {
					t.Fatalf("%v, %d for the node %d", set, code, wrong)
				}
				broken := api.Pdg{Steps: d.Steps, Vars: d.Vars, Deps: append(slices.Clone(d.Deps), api.Dep{})}
				if set, code := ask(broken, []int{wrong}); len(d.Deps) > 0 && (code != api.ErrArgument || len(set) > 0) {
					t.Fatalf("%v, %d for a graph that is not valid", set, code)
				}
			}
		}
	}
	each(t, 300, func(f api.Flat) {
		d := build(t, f)
		checkClosures(t, d, []int{source.Intn(d.Steps + d.Vars + 1)})
	})
}

// TestP23_3Limits has graphs with as many nodes, and more dependences than a graph of layer 6 may have edges.
func TestP23_3Limits(t *testing.T) {
	full, chain := api.Pdg{Steps: api.MaxNodes, Vars: api.MaxVars}, api.Pdg{Steps: api.MaxNodes, Vars: api.MaxVars}
	last := api.MaxNodes + api.MaxVars
	for from := range last + 1 {
		for to := range last + 1 {
			full.Deps = append(full.Deps, control(from, to))
		}
		if from > 0 {
			chain.Deps = append(chain.Deps, data(from, from-1))
		}
	}
	for name, d := range map[string]api.Pdg{"full": full, "chain": chain} {
		back, code := pdg.Back(d, []int{0})
		forth, other := pdg.Forth(d, []int{last})
		if code != api.OK || other != api.OK || len(back) != last+1 || len(forth) != last+1 || slices.Contains(back, false) || slices.Contains(forth, false) {
			t.Errorf("%s: Back has code %d, Forth has code %d", name, code, other)
		}
		if g, code := pdg.Graph(d); code != api.OK || len(g.Edges) != len(d.Deps) {
			t.Errorf("%s: Graph has code %d", name, code)
		}
	}
}

func TestP23_4Examples(t *testing.T) {
	f := example()
	low := api.Policy{Levels: []string{"low", "high"}, Order: [][2]int{{0, 1}}, Hatches: []api.Label{{Name: "h"}}}
	for node, want := range map[int][2][]int{0: {{0}}, 1: {{0}}, 3: {{0}}, 4: {nil, {0}}, 5: {nil, {0}}, 6: {{0}}, 7: {}, 8: {}, 9: {{0}}} {
		ins, hatches, code := pdg.Sources(f, node)
		if !slices.Equal(ins, want[0]) || !slices.Equal(hatches, want[1]) || code != api.OK {
			t.Errorf("Sources of %d = %v, %v, %d", node, ins, hatches, code)
		}
	}
	if outputs, isTimed, code := pdg.Reaches(f, low); !slices.Equal(outputs, []int{3}) || !isTimed || code != api.OK {
		t.Errorf("Reaches = %v, %v, %d", outputs, isTimed, code)
	}
	f.Body = append(f.Body, api.Step{Do: api.Settle, Bounds: []int{5}})
	if outputs, isTimed, code := pdg.Reaches(f, low); !slices.Equal(outputs, []int{3}) || isTimed || code != api.OK {
		t.Errorf("Reaches = %v, %v, %d", outputs, isTimed, code)
	}
	high := low
	high.Hatches = []api.Label{{Name: "h", Level: 1}}
	if outputs, isTimed, code := pdg.Reaches(f, high); !slices.Equal(outputs, []int{3, 5}) || isTimed || code != api.OK {
		t.Errorf("Reaches = %v, %v, %d", outputs, isTimed, code)
	}
	high.Observer = 1
	if outputs, isTimed, code := pdg.Reaches(f, high); len(outputs) > 0 || isTimed || code != api.OK {
		t.Errorf("Reaches = %v, %v, %d", outputs, isTimed, code)
	}
	low.Hatches = nil
	if outputs, isTimed, code := pdg.Reaches(f, low); len(outputs) > 0 || isTimed || code != api.ErrPolicy {
		t.Errorf("Reaches = %v, %v, %d", outputs, isTimed, code)
	}
}

func TestP23_4Sources(t *testing.T) {
	some, most := 0, 0
	each(t, 600, func(f api.Flat) {
		m := newModel(f)
		direct := closure(build(t, f), api.DepData, api.DepControl)
		for node := range m.steps + m.vars + 1 {
			wantIns, wantHatches := m.sourcesModel(direct, node)
			ins, hatches, code := pdg.Sources(f, node)
			if !slices.Equal(ins, wantIns) || !slices.Equal(hatches, wantHatches) || code != api.OK {
				t.Fatalf("Sources of %d = %v, %v, %d, want %v, %v: %+v", node, ins, hatches, code, wantIns, wantHatches, f)
			}
			some += len(hatches)
			most = max(most, len(ins)+len(hatches))
		}
		for _, node := range []int{math.MinInt, -1, m.steps + m.vars + 1, math.MaxInt} {
			if ins, hatches, code := pdg.Sources(f, node); code != api.ErrRange || len(ins)+len(hatches) > 0 {
				t.Fatalf("Sources of %d = %v, %v, %d", node, ins, hatches, code)
			}
		}
	})
	if some < 3000 || most < 6 {
		t.Errorf("%d hatches, at most %d sources", some, most)
	}
}

// policy returns a policy for the program, mostly one that fits it.
func (g generator) policy() api.Policy {
	p := api.Policy{Levels: []string{"low", "left", "right", "high"}, Order: [][2]int{{0, 1}, {0, 2}, {1, 3}, {2, 3}}, Observer: g.Intn(4), Timed: g.Intn(2) == 0}
	for _, v := range vars() {
		if v.Kind != api.Local && g.Intn(2) == 0 {
			p.Inputs = append(p.Inputs, api.Label{Name: v.Name, Level: g.Intn(4)})
		}
	}
	for _, h := range hatches() {
		if g.Intn(6) > 0 {
			p.Hatches = append(p.Hatches, api.Label{Name: h.Name, Level: g.Intn(4)})
		}
	}
	return p
}

func TestP23_4Reaches(t *testing.T) {
	source := newGenerator(234)
	codes, counts, times := map[api.Code]int{}, 0, 0
	each(t, 2000, func(f api.Flat) {
		p := source.policy()
		want, wantTime, wantCode := newModel(f).reachesModel(p, build(t, f))
		outputs, isTimed, code := pdg.Reaches(f, p)
		if !slices.Equal(outputs, want) || isTimed != wantTime || code != wantCode {
			t.Fatalf("Reaches = %v, %v, %d, want %v, %v, %d: %+v, %+v", outputs, isTimed, code, want, wantTime, wantCode, p, f)
		}
		p.Timed = !p.Timed
		if again, other, code := pdg.Reaches(f, p); !slices.Equal(outputs, again) || isTimed != other || code != wantCode {
			t.Fatalf("Reaches = %v, %v, %d, otherwise %v, %v", again, other, code, outputs, isTimed)
		}
		codes[code]++
		counts += len(outputs)
		if isTimed {
			times++
		}
	})
	if codes[api.OK] < 1000 || codes[api.ErrPolicy] < 200 || counts < 500 || times < 300 {
		t.Errorf("codes %v, %d outputs, %d times", codes, counts, times)
	}
}

// reachesModel returns what Reaches returns for a program with the dependence graph d and a valid policy that fits the program.
func (m model) reachesModel(p api.Policy, d api.Pdg) (outputs []int, isTimed bool, code api.Code) {
	visible, _ := policy.Visible(m.f, p)
	released, _ := policy.Released(m.f, p)
	direct := closure(d, api.DepData, api.DepControl)
	isHidden := func(node int) bool {
		ins, _ := m.sourcesModel(direct, node)
		if slices.ContainsFunc(ins, func(v int) bool { return !visible[v] }) {
			return true
		}
		for i, s := range m.all {
			if s.Do == api.Release && !released[s.N] && direct[i][node] {
				return true
			}
		}
		return false
	}
	for i, s := range m.all {
		isLabelled := func(l api.Label) bool { return s.Do != api.Release || l.Name == m.f.Hatches[s.N].Name }
		if s.Do == api.Release && !slices.ContainsFunc(p.Hatches, isLabelled) {
			return nil, false, api.ErrPolicy
		}
		if s.Do == api.Output && isHidden(i) {
			outputs = append(outputs, i)
		}
	}
	return outputs, isHidden(m.steps + m.vars), api.OK
}

func TestP23_4Errors(t *testing.T) {
	f := api.Flat{Vars: vars(), Hatches: hatches(), Body: []api.Step{loop(0, lit(0), []api.Step{test(lit(0), nil, []api.Step{release(0, 1)})})}}
	invalid := f
	invalid.Body = []api.Step{{Do: 9}}
	label := func(names ...string) (list []api.Label) {
		for _, name := range names {
			list = append(list, api.Label{Name: name})
		}
		return list
	}
	for i, c := range []struct {
		f    api.Flat
		p    api.Policy
		code api.Code
	}{
		{f, api.Policy{}, api.ErrArgument}, {f, api.Policy{Levels: []string{"a", "b"}}, api.ErrArgument}, {f, api.Policy{Levels: []string{"a"}, Observer: 1, Inputs: label("zz")}, api.ErrArgument},
		{invalid, api.Policy{Levels: []string{"a"}, Inputs: label("zz")}, api.ErrArgument}, {f, api.Policy{Levels: []string{"a"}, Inputs: label("zz"), Hatches: label("zz")}, api.ErrName},
		{f, api.Policy{Levels: []string{"a"}, Inputs: label("a")}, api.ErrName}, {f, api.Policy{Levels: []string{"a"}, Inputs: label("s"), Hatches: label("h", "s")}, api.ErrName},
		{f, api.Policy{Levels: []string{"a"}}, api.ErrPolicy}, {f, api.Policy{Levels: []string{"a"}, Hatches: label("h", "one")}, api.ErrPolicy}, {f, api.Policy{Levels: []string{"a"}, Hatches: label("k")}, api.OK},
	} {
		if outputs, isTimed, code := pdg.Reaches(c.f, c.p); code != c.code || code != api.OK && (len(outputs) > 0 || isTimed) {
			t.Errorf("%d: Reaches = %v, %v, %d, want %d", i, outputs, isTimed, code, c.code)
		}
	}
}

// valueOf returns the value of an input of vars.
func valueOf(in api.Inputs, v int) int {
	return map[int]int{1: in.Secret[0], 6: in.Secret[1], 3: in.Public[0], 5: in.Random[0]}[v]
}

// onlyOutput returns f without all outputs but one.
func onlyOutput(f api.Flat, kept int) api.Flat {
	for i := flat.Size(f) - 1; i >= 0; i-- {
		if s, _ := flat.At(f, i); s.Do == api.Output && i != kept {
			f, _ = flat.Remove(f, i)
		}
	}
	return f
}

// checkFree expects of runs whose inputs differ only in those that are free that they have the same observation, and returns how many inputs are free.
func checkFree(t *testing.T, f api.Flat, isFree func(v int) bool, isTimed bool) int {
	t.Helper()
	first := map[[4]int]api.Observation{}
	count := 0
	for _, v := range inputs {
		if isFree(v) {
			count++
		}
	}
	for _, in := range allInputs() {
		var key [4]int
		for i, v := range inputs {
			if !isFree(v) {
				key[i] = valueOf(in, v)
			}
		}
		seen, code := flat.Run(f, in)
		if isTimed {
			seen.Outputs = nil
		} else {
			seen.Time = 0
		}
		if other, ok := first[key]; ok && flat.Compare(seen, other) != 0 || code != api.OK {
			t.Fatalf("Run = %v and %v, %d: %v, %+v", seen, other, code, in, f)
		}
		first[key] = seen
	}
	return count
}

func TestP23_5Noninterference(t *testing.T) {
	free, bound, freeTimes, boundTimes := 0, 0, 0, 0
	each(t, 1500, func(f api.Flat) {
		d := build(t, f)
		for i := range d.Steps {
			if s, _ := flat.At(f, i); s.Do != api.Output {
				continue
			}
			back, _ := pdg.Back(d, []int{i})
			n := checkFree(t, onlyOutput(f, i), func(v int) bool { return !back[d.Steps+v] }, false)
			free += n
			bound += len(inputs) - n
		}
		back, _ := pdg.Back(d, []int{d.Steps + d.Vars})
		n := checkFree(t, f, func(v int) bool { return !back[d.Steps+v] }, true)
		freeTimes += n
		boundTimes += len(inputs) - n
	})
	if free < 2000 || bound < 1000 || freeTimes < 2000 || boundTimes < 500 {
		t.Errorf("outputs do not depend on %d inputs, and depend on %d; times on %d and %d", free, bound, freeTimes, boundTimes)
	}
}

func TestP23_6Consequences(t *testing.T) {
	each(t, 300, func(f api.Flat) {
		d := build(t, f)
		places := d.Steps + d.Vars + 1
		var backs, forths [][]bool
		for node := range places {
			back, _ := pdg.Back(d, []int{node})
			forth, _ := pdg.Forth(d, []int{node})
			backs, forths = append(backs, back), append(forths, forth)
		}
		for a := range places {
			for b := range places {
				if backs[a][b] != forths[b][a] {
					t.Fatalf("%d depends on %d: %v: %+v", a, b, backs[a][b], f)
				}
			}
		}
		for node := range places {
			isSource := make([]bool, d.Vars)
			ins, hatches, _ := pdg.Sources(f, node)
			for _, v := range ins {
				isSource[v] = true
			}
			for _, h := range hatches {
				for v := range f.Vars {
					isSource[v] = isSource[v] || mentions(f.Hatches[h].Term, v)
				}
			}
			for v, variable := range f.Vars {
				if variable.Kind != api.Local && isSource[v] != backs[node][d.Steps+v] {
					t.Fatalf("%d depends on the input %d: %v: %+v", node, v, backs[node][d.Steps+v], f)
				}
			}
		}
	})
}

// TestMemory expects that arguments stay as they are, and that results share no memory with them or with later ones.
func TestMemory(t *testing.T) {
	source := newGenerator(23)
	for range 200 {
		f, p := source.program(), source.policy()
		d := build(t, f)
		text, deps, nodes := flat.Text(f), slices.Clone(d.Deps), []int{d.Steps, 0, 3, 0}
		ask := func() []any {
			built, _ := pdg.Build(f)
			g, _ := pdg.Graph(d)
			back, _ := pdg.Back(d, nodes)
			forth, _ := pdg.Forth(d, nodes)
			ins, hatches, _ := pdg.Sources(f, d.Steps+d.Vars)
			outputs, _, _ := pdg.Reaches(f, p)
			return []any{built, g, back, forth, ins, hatches, outputs}
		}
		first, second := ask(), ask()
		if !reflect.DeepEqual(first, second) {
			t.Fatalf("the results differ: %v, %v", first, second)
		}
		for _, result := range first {
			spoil(reflect.ValueOf(result))
		}
		if flat.Text(f) != text || !slices.Equal(d.Deps, deps) || !slices.Equal(nodes, []int{d.Steps, 0, 3, 0}) || !reflect.DeepEqual(ask(), second) {
			t.Fatalf("something is shared: %+v", f)
		}
	}
}

// spoil changes all memory of a value.
func spoil(v reflect.Value) {
	switch v.Kind() {
	case reflect.Struct:
		for i := range v.NumField() {
			spoil(v.Field(i))
		}
	case reflect.Slice, reflect.Array:
		for i := range v.Len() {
			spoil(v.Index(i))
		}
	case reflect.Int:
		if v.CanSet() {
			v.SetInt(-77)
		}
	case reflect.Bool:
		if v.CanSet() {
			v.SetBool(!v.Bool())
		}
	}
}
