package sample

import (
	"slices"

	"keyhole/api"
	"keyhole/flat"
)

// Source makes random programs and policies of the numbers that Intn returns, each from 0 to n - 1.
type Source struct {
	Intn  func(n int) int
	Kinds []api.Action // the kinds of steps, of which one is drawn for each step
	Costs []int        // the costs, of which one is drawn for each step
	Term  func() api.Term
}

// NewSource returns a source of programs over Vars, in which all kinds of steps are equally frequent.
func NewSource(intn func(n int) int) *Source {
	g := &Source{Intn: intn, Kinds: []api.Action{api.Assign, api.Output, api.Wait, api.If, api.Loop, api.Release}, Costs: []int{0, 0, 0, 1}}
	g.Term = g.AnyTerm
	return g
}

// draw returns one of the elements of a list.
func draw[E any](g *Source, list []E) E {
	return list[g.Intn(len(list))]
}

// some returns n elements of a list at different places, in any order.
func some[E any](g *Source, list []E, n int) []E {
	var drawn []E
	left := slices.Clone(list)
	for range n {
		i := g.Intn(len(left))
		drawn = append(drawn, left[i])
		left = slices.Delete(left, i, i+1)
	}
	return drawn
}

// AnyTerm returns a term over Vars, mostly over the locals.
func (g *Source) AnyTerm() api.Term {
	kinds := []api.Op{api.OpAdd, api.OpSub, api.OpLt, api.OpEq, api.OpMod, api.OpMax, api.OpAnd}
	variable := func() api.Term { return Ref(draw(g, Locals())) }
	switch g.Intn(9) {
	case 0, 1:
		return Lit(g.Intn(4) - 1)
	case 2, 3:
		return Ref(draw(g, Inputs()))
	case 4:
		return variable()
	case 5:
		return Op(api.OpSelect, variable(), Ref(g.Intn(len(Vars()))), Lit(1), variable())
	}
	return Op(draw(g, kinds), variable(), Lit(g.Intn(3)))
}

// Steps returns at most so many steps, which are nested at most so deep.
func (g *Source) Steps(most, depth int) []api.Step {
	var list []api.Step
	for range g.Intn(most + 1) {
		list = append(list, Costly(draw(g, g.Costs), g.step(depth)))
	}
	return list
}

func (g *Source) step(depth int) api.Step {
	local := draw(g, Locals())
	kind := draw(g, g.Kinds)
	if depth <= 1 && (kind == api.If || kind == api.Loop) {
		kind = api.Assign
	}
	switch kind {
	case api.If:
		return If(g.Term(), g.Steps(3, depth-1), g.Steps(2, depth-1))
	case api.Loop:
		return Loop(g.Intn(3), g.Term(), g.Steps(3, depth-1)...)
	case api.Output:
		return Output(g.Term())
	case api.Wait:
		return Wait(0)
	case api.Release:
		return Release(local, g.Intn(len(Hatches())))
	}
	return Set(local, g.Term())
}

// Program returns a valid program with Vars and Hatches.
func (g *Source) Program() api.Flat {
	for {
		f := api.Flat{Vars: Vars(), Hatches: Hatches(), Body: g.Steps(8, 4)}
		if g.Intn(3) == 0 {
			f.Body = append(f.Body, Settle(g.Intn(2), g.Intn(12), 20, 50))
		}
		if flat.Check(f) == api.OK {
			return f
		}
	}
}

// Policy returns a valid policy for Vars and Hatches. Some inputs, and so many hatches, have labels.
func (g *Source) Policy(hatches int) api.Policy {
	p := draw(g, Lattices())
	for _, v := range some(g, Inputs(), g.Intn(len(Inputs())+1)) {
		p.Inputs = append(p.Inputs, api.Label{Name: Vars()[v].Name, Level: g.Intn(len(p.Levels))})
	}
	for _, h := range some(g, Hatches(), hatches) {
		p.Hatches = append(p.Hatches, api.Label{Name: h.Name, Level: g.Intn(len(p.Levels))})
	}
	p.Observer = g.Intn(len(p.Levels))
	p.Timed = g.Intn(2) == 0
	return p
}
