package lower

import (
	"keyhole/api"
	"keyhole/types"
)

// generator makes the steps of an accepted program. Its methods append to the block that is open.
type generator struct {
	memory
	costs     api.Costs
	decls     []api.Decl
	functions map[string]api.Decl
	frames    map[string]frame
	hatches   []api.Hatch
	block     []api.Step
	due       int // the time that the next step takes beside its own
	nodes     int // of the flat program so far, but for some that go with others
}

// frame has the variables that statements see. No function calls itself, not even through others, so all calls of a function
// can share one frame.
type frame struct {
	scope
	prefix string // of the names of the flat variables
	result variable
}

func newGenerator(p api.Program, c api.Costs) *generator {
	return &generator{
		memory:    newMemory(),
		costs:     c,
		decls:     p.Decls,
		functions: map[string]api.Decl{},
		frames:    map[string]frame{},
	}
}

// program returns the flat program, which is not complete if the generator is full.
func (g *generator) program(p api.Program) api.Flat {
	body := frame{scope: scope{}}
	g.inputs(body, p.Decls)
	for _, d := range p.Decls {
		switch d.Kind {
		case api.VarDecl:
			g.declare(body, d)
		case api.HatchDecl:
			g.hatches = append(g.hatches, g.hatch(body, d))
		case api.FuncDecl:
			g.functions[d.Name] = d
		}
	}
	g.stmts(body, p.Body)
	return api.Flat{Vars: g.vars, Hatches: g.hatches, Body: g.block}
}

// isFull reports whether the program is beyond the limits already. What is not added then makes no difference, and functions
// that call others, or indices in indices, could stand for more steps and terms than can ever be made.
func (g *generator) isFull() bool {
	return g.nodes > api.MaxNodes
}

// inputs adds the inputs.
func (g *generator) inputs(f frame, decls []api.Decl) {
	kinds := map[api.DeclKind]api.Kind{api.SecretDecl: api.Secret, api.PublicDecl: api.Public, api.RandomDecl: api.Random}
	for _, d := range decls {
		kind, ok := kinds[d.Kind]
		if !ok {
			continue
		}
		f.scope[d.Name] = variable{g.expand(d.Type), len(g.vars)}
		for _, s := range scalarsOf(f.scope[d.Name].of) {
			g.input(d.Name+s.Path, kind, bounds{s.Low, s.High})
		}
	}
}

func (g *generator) hatch(f frame, d api.Decl) api.Hatch {
	s := scalarsOf(g.expand(d.Type))[0]
	return api.Hatch{Name: d.Name, Low: s.Low, High: s.High, Term: g.term(f, d.Value)}
}

// declare adds a variable to a frame.
func (g *generator) declare(f frame, d api.Decl) {
	f.scope[d.Name] = g.variable(f.prefix+d.Name, d)
}

// variable adds the local variables for what is declared.
func (g *generator) variable(name string, d api.Decl) variable {
	v := variable{g.expand(d.Type), len(g.vars)}
	for _, s := range scalarsOf(v.of) {
		g.local(name+s.Path, bounds{s.Low, s.High}, initial(s, d.Init))
	}
	return v
}

func (g *generator) expand(t api.Type) api.Type {
	expanded, _ := types.Expand(g.decls, t)
	return expanded
}

// initial returns the value with which a scalar of a variable starts.
func initial(s api.Scalar, init int) int {
	if s.Bool && init != 0 {
		return 1
	}
	return min(max(init, s.Low), s.High)
}

// charge lets the next step take the time, beside its own.
func (g *generator) charge(cost int) {
	g.due += cost
}

// add adds a step to the block.
func (g *generator) add(s api.Step) {
	if g.due > api.MaxCharge {
		g.pay()
	}
	s.Cost += g.due
	g.due = 0
	g.nodes++
	g.block = append(g.block, s)
}

// pay adds a step for the time that is due, if there is any.
func (g *generator) pay() {
	if cost := g.due; cost > 0 {
		g.due = 0
		g.add(api.Step{Do: api.Wait, Cost: cost})
	}
}

// within returns the block of the steps that are added by add.
func (g *generator) within(add func()) []api.Step {
	outer := g.block
	g.block = nil
	add()
	inner := g.block
	g.block = outer
	return inner
}

// assign adds a step that assigns a flat variable.
func (g *generator) assign(v int, t api.Term) {
	g.add(api.Step{Do: api.Assign, Var: v, Term: t})
}
