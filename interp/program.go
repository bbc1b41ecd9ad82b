package interp

import (
	"slices"

	"keyhole/api"
	"keyhole/cost"
	"keyhole/types"
)

// program is an accepted program with what its runs have in common.
type program struct {
	costs     api.Costs
	types     []api.Decl  // the type declarations, with expanded types
	variables []*declared // the inputs and variables, in the order of the declarations
	hatches   []*declared
	function  func(name string) *function
}

// function is a function with what its calls have in common.
type function struct {
	params, vars []*declared
	result       *declared
	body         []stmt
	value        api.Expr
}

// stmt is a statement with its costs: before anything else, for each round of a loop, and after the body of a function that
// is called.
type stmt struct {
	api.Stmt
	cost, round, leave int
	then, other        []stmt
}

// newProgram returns an accepted program with a valid cost model.
func newProgram(p api.Program, c api.Costs) *program {
	made := &program{costs: c}
	functions := map[string]api.Decl{}
	for _, d := range p.Decls {
		switch d.Kind {
		case api.TypeDecl:
			made.types = append(made.types, api.Decl{Kind: api.TypeDecl, Name: d.Name, Type: made.expand(d.Type)})
		case api.HatchDecl:
			made.hatches = append(made.hatches, made.declare(d))
		case api.FuncDecl:
			functions[d.Name] = d
		default:
			made.variables = append(made.variables, made.declare(d))
		}
	}
	made.function = made.finder(functions)
	return made
}

// expand returns t with the declared names replaced. Only the declarations that t names are handed on, so that a long chain
// of declared types is not expanded again for each declaration.
func (p *program) expand(t api.Type) api.Type {
	var used []api.Decl
	for _, d := range p.types {
		if mentions(t, d.Name) {
			used = append(used, d)
		}
	}
	expanded, _ := types.Expand(used, t)
	return expanded
}

// mentions reports whether the declared name occurs in t.
func mentions(t api.Type, name string) bool {
	within := func(of api.Type) bool { return mentions(of, name) }
	return t.Kind == api.TypeName && t.Name == name || slices.ContainsFunc(t.Of, within)
}

// declare returns what is declared with its expanded type.
func (p *program) declare(d api.Decl) *declared {
	t := p.expand(d.Type)
	scalars, _ := types.Scalars(t)
	return &declared{d.Name, d.Kind, shapeOf(t), scalars, d.Init, d.Value}
}

// inputs returns the number of scalars of the inputs of a kind.
func (p *program) inputs(kind api.DeclKind) int {
	total := 0
	for _, d := range p.variables {
		if d.kind == kind {
			total += d.shape.size
		}
	}
	return total
}

// vectors returns the number of vectors of the inputs of a kind.
func (p *program) vectors(kind api.DeclKind) int {
	total := 1
	for _, d := range p.variables {
		if d.kind != kind {
			continue
		}
		for _, s := range d.scalars {
			total *= s.High - s.Low + 1
		}
	}
	return total
}

// finder returns a function that finds the functions of the program by their names. Each one is made at its first call.
func (p *program) finder(decls map[string]api.Decl) func(name string) *function {
	made := map[string]*function{}
	return func(name string) *function {
		if made[name] == nil {
			made[name] = p.newFunction(decls[name])
		}
		return made[name]
	}
}

func (p *program) newFunction(d api.Decl) *function {
	f := &function{result: p.declare(d), value: d.Value}
	for _, param := range d.Params {
		f.params = append(f.params, p.declare(param))
	}
	for _, v := range d.Vars {
		f.vars = append(f.vars, p.declare(v))
	}
	f.body = p.stmts(d.Body, slices.Concat(f.params, f.vars))
	return f
}

// stmts returns statements with their costs, which may assign the variables.
func (p *program) stmts(list []api.Stmt, variables []*declared) []stmt {
	shapes := map[string]*shape{}
	for _, d := range variables {
		shapes[d.name] = d.shape
	}
	return p.priced(list, shapes)
}

func (p *program) priced(list []api.Stmt, shapes map[string]*shape) []stmt {
	var result []stmt
	for _, s := range list {
		made := stmt{Stmt: s, then: p.priced(s.Then, shapes), other: p.priced(s.Else, shapes)}
		switch s.Verb {
		case api.SetStmt:
			made.cost, _ = cost.Set(p.costs, s.Place, s.Value, sizeOf(s.Place, shapes))
		case api.CallStmt:
			made.cost, made.leave = p.callCosts(s, shapes)
		case api.ReleaseStmt:
			made.cost, _ = cost.Release(p.costs, s.Place)
		case api.OutputStmt:
			made.cost, _ = cost.Output(p.costs, s.Value)
		case api.WaitStmt:
			made.cost = s.N
		case api.IfStmt:
			made.cost, _ = cost.If(p.costs, s.Value)
		case api.WhileStmt:
			made.round, _ = cost.While(p.costs, s.Value)
		case api.ForStmt:
			made.round = p.costs.Loop
		}
		result = append(result, made)
	}
	return result
}

// callCosts returns the costs of a call before and after the body of the function.
func (p *program) callCosts(s api.Stmt, shapes map[string]*shape) (enter, leave int) {
	f := p.function(s.Name)
	var scalars []int
	for _, param := range f.params {
		scalars = append(scalars, len(param.scalars))
	}
	enter, _ = cost.Enter(p.costs, s.Args, scalars)
	leave, _ = cost.Leave(p.costs, s.Place, f.value, sizeOf(s.Place, shapes))
	return enter, leave
}

// sizeOf returns the number of scalars of the type of a place. It is the same for all elements of an array.
func sizeOf(place api.Expr, shapes map[string]*shape) int {
	var find func(place api.Expr) *shape
	find = func(place api.Expr) *shape {
		switch place.Op {
		case api.OpField:
			s := find(place.Kids[0])
			return s.of[slices.Index(s.names, place.Name)]
		case api.OpIndex:
			return find(place.Kids[0]).of[0]
		}
		return shapes[place.Name]
	}
	return find(place).size
}
