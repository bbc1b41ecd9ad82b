package lower

import (
	"slices"

	"keyhole/api"
	"keyhole/cost"
)

// stmts adds the steps of statements that see the variables of a frame.
func (g *generator) stmts(f frame, list []api.Stmt) {
	for _, s := range list {
		if g.isFull() {
			return
		}
		g.nextStatement()
		g.stmt(f, s)
	}
}

func (g *generator) stmt(f frame, s api.Stmt) {
	switch s.Verb {
	case api.SetStmt:
		g.set(f, s)
	case api.CallStmt:
		g.call(f, s)
	case api.ReleaseStmt:
		g.release(f, s)
	case api.OutputStmt:
		price, _ := cost.Output(g.costs, s.Value)
		g.charge(price)
		g.add(api.Step{Do: api.Output, Term: g.term(f, s.Value)})
	case api.WaitStmt:
		g.add(api.Step{Do: api.Wait, Cost: s.N})
	case api.IfStmt:
		g.choice(f, s)
	case api.WhileStmt:
		price, _ := cost.While(g.costs, s.Value)
		then := g.within(func() { g.stmts(f, s.Then) })
		g.add(api.Step{Do: api.Loop, Cost: price, N: s.N, Term: g.term(f, s.Value), Then: then})
	case api.ForStmt:
		g.loop(f, s)
	case api.SettleStmt:
		g.add(api.Step{Do: api.Settle, Bounds: slices.Clone(s.Numbers)})
	}
}

func (g *generator) set(f frame, s api.Stmt) {
	p := g.place(f, s.Place)
	price, _ := cost.Set(g.costs, s.Place, s.Value, sizeOf(p.of))
	g.charge(price)
	g.store(p, g.values(f, s.Value))
}

func (g *generator) release(f frame, s api.Stmt) {
	price, _ := cost.Release(g.costs, s.Place)
	g.charge(price)
	i := slices.IndexFunc(g.hatches, func(h api.Hatch) bool { return h.Name == s.Name })
	p := g.place(f, s.Place)
	if len(p.indices) == 0 {
		g.add(api.Step{Do: api.Release, Var: p.first, N: i})
		return
	}
	released := g.temporary(bounds{g.hatches[i].Low, g.hatches[i].High})
	g.add(api.Step{Do: api.Release, Var: released, N: i})
	g.store(p, []api.Term{reference(released)})
}

func (g *generator) choice(f frame, s api.Stmt) {
	price, _ := cost.If(g.costs, s.Value)
	then := g.within(func() { g.stmts(f, s.Then) })
	other := g.within(func() { g.stmts(f, s.Else) })
	g.charge(price)
	g.add(api.Step{Do: api.If, Term: g.term(f, s.Value), Then: then, Else: other})
}

// loop adds the steps of a for statement. The term of the loop is a number, so that one sees that its time does not vary.
func (g *generator) loop(f frame, s api.Stmt) {
	v := g.counter(f.prefix+s.Name, bounds{s.Low, s.High})
	f.scope[s.Name] = variable{api.Type{Kind: api.TypeInt, Low: s.Low, High: s.High}, v}
	g.assign(v, number(s.Low))
	then := g.within(func() {
		g.stmts(f, s.Then)
		g.assign(v, next(v, s.High))
	})
	delete(f.scope, s.Name)
	g.add(api.Step{Do: api.Loop, Cost: g.costs.Loop, N: s.High - s.Low + 1, Term: number(1), Then: then})
}

// next returns one more than a variable that goes up to high, where the assignment stops it.
func next(v, high int) api.Term {
	last := reference(v)
	if high == api.MaxInt {
		// No term may be greater, not even where it is clamped.
		last = operation(api.OpMin, last, number(high-1))
	}
	return operation(api.OpAdd, last, number(1))
}

// call adds the steps of the function with those of the call around them.
func (g *generator) call(f frame, s api.Stmt) {
	d := g.functions[s.Name]
	called := g.frame(d)
	var sizes []int
	for _, param := range d.Params {
		sizes = append(sizes, sizeOf(called.scope[param.Name].of))
	}
	enter, _ := cost.Enter(g.costs, s.Args, sizes)
	g.charge(enter)
	for i, param := range d.Params {
		g.store(called.scope[param.Name].place(), g.values(f, s.Args[i]))
	}
	for _, v := range d.Vars {
		g.start(called.scope[v.Name], v.Init)
	}
	// The cost must not move into a branch of the body.
	g.pay()
	g.stmts(called, d.Body)
	p := g.place(f, s.Place)
	leave, _ := cost.Leave(g.costs, s.Place, d.Value, sizeOf(p.of))
	g.charge(leave)
	result := called.result.place()
	g.store(result, g.values(called, d.Value))
	g.store(p, g.valuesAt(result))
}

// frame returns the frame of a function.
func (g *generator) frame(d api.Decl) frame {
	f, ok := g.frames[d.Name]
	if ok {
		return f
	}
	f = frame{scope: scope{}, prefix: d.Name + "_", result: g.variable(d.Name, d)}
	for _, list := range [...][]api.Decl{d.Params, d.Vars} {
		for _, v := range list {
			g.declare(f, v)
		}
	}
	g.frames[d.Name] = f
	return f
}

// start assigns the values with which a variable starts.
func (g *generator) start(v variable, init int) {
	for k, s := range scalarsOf(v.of) {
		g.assign(v.first+k, number(initial(s, init)))
	}
}
