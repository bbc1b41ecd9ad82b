package flat_test

import (
	"math/rand"
	"reflect"
	"slices"
	"strconv"

	"keyhole/api"
)

// generator makes random programs that follow the rules, but for limits and ranges that are passed sometimes.
type generator struct {
	*rand.Rand
}

func newGenerator(seed int64) generator {
	return generator{rand.New(rand.NewSource(seed))}
}

func pick[T any](g generator, list ...T) T {
	return list[g.Intn(len(list))]
}

// operators are the operators of terms with kids, and their numbers of kids; a select has more of them.
var operators = []struct {
	op   api.Op
	kids int
}{
	{api.OpNeg, 1}, {api.OpNot, 1}, {api.OpAdd, 2}, {api.OpSub, 2}, {api.OpMul, 2}, {api.OpDiv, 2}, {api.OpMod, 2}, {api.OpEq, 2}, {api.OpNe, 2}, {api.OpLt, 2}, {api.OpLe, 2},
	{api.OpGt, 2}, {api.OpGe, 2}, {api.OpAnd, 2}, {api.OpOr, 2}, {api.OpMin, 2}, {api.OpMax, 2}, {api.OpCond, 3}, {api.OpSelect, 2},
}

// lit, ref and op make terms.
func lit(n int) api.Term { return api.Term{N: n} }
func ref(i int) api.Term { return api.Term{Op: api.OpRef, N: i} }
func op(o api.Op, kids ...api.Term) api.Term {
	return api.Term{Op: o, Kids: kids}
}

// vars returns variables with small bounds.
func (g generator) vars(most int) []api.Var {
	var list []api.Var
	for i := range g.Intn(most + 1) {
		low := pick(g, 0, 0, 1, -1, -3)
		v := api.Var{Name: pick(g, "v", "a.b_", "x0y") + strconv.Itoa(i), Kind: pick(g, api.Local, api.Local, api.Secret, api.Public, api.Random), Low: low, High: low + g.Intn(4)}
		if v.Kind == api.Local {
			v.Init = low + g.Intn(v.High-low+1)
		}
		list = append(list, v)
	}
	return list
}

// term returns a term over the variables with the indices.
func (g generator) term(refs []int, depth int) api.Term {
	switch {
	case depth <= 1 || g.Intn(4) == 0:
		if len(refs) > 0 && g.Intn(3) > 0 {
			return ref(pick(g, refs...))
		}
		return lit(pick(g, 0, 1, 2, 3, 7, -1, -5, 100, 1000))
	}
	o := pick(g, operators...)
	t := api.Term{Op: o.op}
	if o.op == api.OpSelect {
		o.kids += g.Intn(4)
	}
	for range o.kids {
		t.Kids = append(t.Kids, g.term(refs, depth-1))
	}
	return t
}

// indices returns the indices of the variables that are accepted.
func indices(vars []api.Var, accept func(v api.Var) bool) []int {
	var list []int
	for i, v := range vars {
		if accept(v) {
			list = append(list, i)
		}
	}
	return list
}

func isInput(v api.Var) bool    { return v.Kind != api.Local }
func isLocal(v api.Var) bool    { return v.Kind == api.Local }
func isAny(api.Var) bool        { return true }
func (g generator) cost() int   { return pick(g, 0, 1, 2, 5, 30) }
func (g generator) count() int  { return pick(g, 0, 1, 2, 3) }
func (g generator) small() bool { return g.Intn(4) == 0 }

func (g generator) steps(f api.Flat, most, depth int) []api.Step {
	var list []api.Step
	for range g.Intn(most + 1) {
		list = append(list, g.step(f, depth))
	}
	return list
}

func (g generator) step(f api.Flat, depth int) api.Step {
	all, locals := indices(f.Vars, isAny), indices(f.Vars, isLocal)
	s := api.Step{Cost: g.cost()}
	if depth > 1 && g.Intn(3) == 0 {
		s.Do, s.Term, s.Then = pick(g, api.If, api.Loop), g.term(all, 3), g.steps(f, 3, depth-1)
		if s.Do == api.If {
			s.Else = g.steps(f, 2, depth-1)
		} else {
			s.N = g.count()
		}
		return s
	}
	switch pick(g, api.Assign, api.Assign, api.Assign, api.Output, api.Wait, api.Release) {
	case api.Assign:
		if len(locals) > 0 {
			s.Do, s.Var, s.Term = api.Assign, pick(g, locals...), g.term(all, 4)
			return s
		}
	case api.Release:
		if len(locals) > 0 && len(f.Hatches) > 0 {
			s.Do, s.Var, s.N = api.Release, pick(g, locals...), g.Intn(len(f.Hatches))
			return s
		}
	case api.Output:
		s.Do, s.Term = api.Output, g.term(all, 4)
		return s
	}
	s.Do = api.Wait
	return s
}

// program returns a program, which is valid more often than not.
func (g generator) program() api.Flat {
	f := api.Flat{Vars: g.vars(6)}
	for i := range g.Intn(3) {
		low := g.Intn(7) - 3
		h := api.Hatch{Name: "h" + strconv.Itoa(i), Low: low, High: low + g.Intn(4), Term: g.term(indices(f.Vars, isInput), 3)}
		f.Hatches = append(f.Hatches, h)
	}
	f.Body = g.steps(f, 6, 3)
	if g.small() {
		f.Body = append(f.Body, api.Step{Do: api.Settle, Cost: g.cost(), Bounds: []int{g.Intn(5), 20, 40 + g.Intn(100)}})
	}
	return f
}

// inputs returns values of the inputs, each within its bounds.
func (g generator) inputs(f api.Flat) api.Inputs {
	var in api.Inputs
	lists := map[api.Kind]*[]int{api.Secret: &in.Secret, api.Public: &in.Public, api.Random: &in.Random}
	for _, v := range f.Vars {
		if list := lists[v.Kind]; list != nil {
			*list = append(*list, v.Low+g.Intn(v.High-v.Low+1))
		}
	}
	return in
}

// values returns a value for each variable.
func (g generator) values(vars []api.Var) []int {
	var list []int
	for _, v := range vars {
		list = append(list, v.Low+g.Intn(v.High-v.Low+1))
	}
	return list
}

// terms returns all terms of a program, also those within terms.
func terms(f *api.Flat) []*api.Term {
	var list []*api.Term
	for i := range f.Hatches {
		list = append(list, &f.Hatches[i].Term)
	}
	for _, s := range allSteps(f) {
		list = append(list, &s.Term)
	}
	for i := 0; i < len(list); i++ {
		for k := range list[i].Kids {
			list = append(list, &list[i].Kids[k])
		}
	}
	return list
}

// allSteps returns all steps of a program, in no certain order.
func allSteps(f *api.Flat) []*api.Step {
	var list []*api.Step
	lists := [][]api.Step{f.Body}
	for i := 0; i < len(lists); i++ {
		for k := range lists[i] {
			s := &lists[i][k]
			list, lists = append(list, s), append(lists, s.Then, s.Else)
		}
	}
	return list
}

// disturb changes something of a program that has memory of its own.
func (g generator) disturb(f *api.Flat) {
	switch g.Intn(8) {
	case 0, 1:
		g.disturbVars(f)
	case 2:
		g.disturbHatches(f)
	case 3, 4:
		if list := terms(f); len(list) > 0 {
			g.disturbTerm(list[g.Intn(len(list))])
		}
	default:
		if list := allSteps(f); len(list) > 0 {
			g.disturbStep(list[g.Intn(len(list))])
		}
	}
}

// odd returns a number that is out of most ranges.
func (g generator) odd() int {
	return pick(g, -1, 1, 2, 9, 63, 64, api.MaxInt, -api.MaxInt, api.MaxInt+1, -api.MaxInt-1, 10000, 10001, 4096, 4097, api.MaxTime, api.MaxTime+1, 1<<63-1, -1<<63)
}

func (g generator) name() string {
	return pick(g, "", "A", "v", "v0", "h0", "a.b_0", "0a", "_a", ".", "a-b", "if", "ä", "a\n", "v1234567890123456789012345678901234567890")
}

func (g generator) disturbVars(f *api.Flat) {
	if len(f.Vars) == 0 || g.Intn(6) == 0 {
		f.Vars = append(f.Vars, api.Var{Name: "wide", Kind: pick(g, api.Secret, api.Public, api.Random), High: pick(g, 255, 256, 4095, 4096)})
		return
	}
	v := &f.Vars[g.Intn(len(f.Vars))]
	switch g.Intn(5) {
	case 0:
		v.Name = g.name()
	case 1:
		v.Kind = pick(g, -1, 4, api.Local, api.Secret, api.Public, api.Random)
	case 2:
		v.Low = g.odd()
	case 3:
		v.High = g.odd()
	default:
		v.Init = g.odd()
	}
}

func (g generator) disturbHatches(f *api.Flat) {
	if len(f.Hatches) == 0 {
		f.Hatches = append(f.Hatches, api.Hatch{Name: g.name(), Term: lit(g.odd())})
		return
	}
	h := &f.Hatches[g.Intn(len(f.Hatches))]
	switch g.Intn(4) {
	case 0:
		h.Name = g.name()
	case 1:
		h.Low = g.odd()
	case 2:
		h.High = g.odd()
	default:
		h.Term = ref(g.Intn(len(f.Vars) + 1))
	}
}

func (g generator) disturbTerm(t *api.Term) {
	switch g.Intn(4) {
	case 0:
		t.Op = api.Op(g.Intn(30) - 2)
	case 1:
		t.N = g.odd()
	case 2:
		t.Kids = slices.Concat(t.Kids, []api.Term{lit(1)})
	default:
		if len(t.Kids) > 0 {
			t.Kids = t.Kids[1:]
		}
	}
}

func (g generator) disturbStep(s *api.Step) {
	switch g.Intn(8) {
	case 0:
		s.Do = api.Action(g.Intn(10) - 1)
	case 1:
		s.Cost = g.odd()
	case 2:
		s.Var = g.odd()
	case 3:
		s.N = g.odd()
	case 4:
		s.Term = lit(g.odd())
	case 5:
		s.Then = append(s.Then, api.Step{Do: pick(g, api.Wait, api.Output, api.Settle)})
	case 6:
		s.Else = append(s.Else, api.Step{Do: api.Wait, Cost: g.odd()})
	default:
		s.Bounds = pick(g, nil, []int{0}, []int{3, 3}, []int{-1, 3}, []int{1 << 26}, []int{5, 1<<26 + 1})
	}
}

// clone returns a copy of v that shares no memory with it. Its empty lists are not nil if they are wanted so.
func clone[T any](v T, empty bool) T {
	result := reflect.New(reflect.TypeOf(v)).Elem()
	cloneInto(result, reflect.ValueOf(v), empty)
	return result.Interface().(T)
}

func cloneInto(to, from reflect.Value, empty bool) {
	switch from.Kind() {
	case reflect.Struct:
		for i := range from.NumField() {
			cloneInto(to.Field(i), from.Field(i), empty)
		}
	case reflect.Slice:
		if from.Len() > 0 || empty {
			to.Set(reflect.MakeSlice(from.Type(), from.Len(), from.Len()))
		}
		for i := range from.Len() {
			cloneInto(to.Index(i), from.Index(i), empty)
		}
	default:
		to.Set(from)
	}
}
