package lower_test

import (
	"math/big"
	"reflect"
	"slices"
	"testing"

	"keyhole/api"
	"keyhole/domain"
	"keyhole/flat"
	"keyhole/interp"
	"keyhole/lower"
	"keyhole/parser"
	"keyhole/syntax"
	"keyhole/typecheck"
	"keyhole/types"
)

func parse(t *testing.T, text string) api.Program {
	t.Helper()
	p, at, code := parser.Parse(text)
	if code != api.OK {
		t.Fatalf("Parse = %d, %d: %s", at, code, text)
	}
	if at, code := typecheck.Check(p); code != api.OK {
		t.Fatalf("Check = %d, %d: %s", at, code, text)
	}
	return p
}

func printed(p api.Program) string {
	text, _ := syntax.Print(p)
	return text
}

// declared returns the scalars of what is declared.
func declared(p api.Program, d api.Decl) []api.Scalar {
	t, _ := types.Expand(p.Decls, d.Type)
	scalars, _ := types.Scalars(t)
	return scalars
}

// inputVars returns the inputs that the flat program of p must have.
func inputVars(p api.Program) []api.Var {
	var vars []api.Var
	for _, d := range p.Decls {
		var kind api.Kind
		switch d.Kind {
		case api.SecretDecl:
			kind = api.Secret
		case api.PublicDecl:
			kind = api.Public
		case api.RandomDecl:
			kind = api.Random
		default:
			continue
		}
		for _, s := range declared(p, d) {
			vars = append(vars, api.Var{Name: d.Name + s.Path, Kind: kind, Low: s.Low, High: s.High})
		}
	}
	return vars
}

// vectors returns inputs of a program: all of them, or as many as are wanted, chosen at random.
func (w *writer) vectors(p api.Program, most int) []api.Inputs {
	vars := inputVars(p)
	secrets, _ := domain.Space(vars, api.Secret)
	publics, _ := domain.Space(vars, api.Public)
	randoms, _ := domain.Space(vars, api.Random)
	var list []api.Inputs
	for i := range min(most, secrets*publics*randoms) {
		if secrets*publics*randoms > most {
			i = w.Intn(secrets * publics * randoms)
		}
		in, _ := domain.Inputs(vars, i%secrets, i/secrets%publics, i/secrets/publics)
		list = append(list, in)
	}
	return list
}

// expectSame fails unless f does for the inputs what p does.
func expectSame(t *testing.T, p api.Program, c api.Costs, f api.Flat, inputs []api.Inputs) {
	t.Helper()
	for _, in := range inputs {
		want, wantCode := interp.Run(p, c, in)
		got, code := flat.Run(f, in)
		if !slices.Equal(got.Outputs, want.Outputs) || got.Time != want.Time || code != api.OK || wantCode != api.OK {
			t.Fatalf("%v, %d, want %v, %d, for %v: %s\n%s", got, code, want, wantCode, in, printed(p), flat.Text(f))
		}
		hatches, _ := interp.Hatches(p, in)
		if got := hatchValues(f, in); !slices.Equal(got, hatches) {
			t.Fatalf("the hatches are %v, want %v, for %v: %s\n%s", got, hatches, in, printed(p), flat.Text(f))
		}
	}
}

// hatchValues returns the values of the hatches of a flat program.
func hatchValues(f api.Flat, in api.Inputs) []int {
	rest := map[api.Kind][]int{api.Secret: in.Secret, api.Public: in.Public, api.Random: in.Random}
	var values, list []int
	for _, v := range f.Vars {
		if v.Kind == api.Local {
			values = append(values, v.Init)
			continue
		}
		values = append(values, rest[v.Kind][0])
		rest[v.Kind] = rest[v.Kind][1:]
	}
	for _, h := range f.Hatches {
		n, code := flat.Eval(f.Vars, values, h.Term)
		if code != api.OK {
			panic("a hatch has no value")
		}
		list = append(list, min(max(n, h.Low), h.High))
	}
	return list
}

// expectLowered fails unless Lower returns a flat program with the specified properties. It runs it for so many inputs at most.
func expectLowered(t *testing.T, w *writer, p api.Program, c api.Costs, most int) api.Flat {
	t.Helper()
	f, code := lower.Lower(p, c)
	if code != api.OK || flat.Check(f) != api.OK {
		t.Fatalf("Lower = %d, Check = %d: %s", code, flat.Check(f), printed(p))
	}
	expectInputs(t, p, f)
	expectHatches(t, p, f)
	expectSame(t, p, c, f, w.vectors(p, most))
	return f
}

// expectInputs fails unless the inputs of f are those of p, in order.
func expectInputs(t *testing.T, p api.Program, f api.Flat) {
	t.Helper()
	inputs := slices.DeleteFunc(slices.Clone(f.Vars), func(v api.Var) bool { return v.Kind == api.Local })
	if !slices.Equal(inputs, inputVars(p)) {
		t.Fatalf("the inputs are %v, want %v: %s", inputs, inputVars(p), printed(p))
	}
}

// expectHatches fails unless the hatches of f have the names and bounds of those of p, in order.
func expectHatches(t *testing.T, p api.Program, f api.Flat) {
	t.Helper()
	var hatches []api.Hatch
	for _, h := range f.Hatches {
		hatches = append(hatches, api.Hatch{Name: h.Name, Low: h.Low, High: h.High})
	}
	var want []api.Hatch
	for _, d := range p.Decls {
		if d.Kind == api.HatchDecl {
			s := declared(p, d)[0]
			want = append(want, api.Hatch{Name: d.Name, Low: s.Low, High: s.High})
		}
	}
	if !reflect.DeepEqual(hatches, want) {
		t.Fatalf("the hatches are %v, want %v: %s", hatches, want, printed(p))
	}
}

// measure is what the chapter says of the size of programs. It follows all calls wherever they are.
type measure struct {
	program   api.Program
	functions map[string]api.Decl
}

func measureOf(p api.Program) measure {
	m := measure{p, map[string]api.Decl{}}
	for _, d := range p.Decls {
		if d.Kind == api.FuncDecl {
			m.functions[d.Name] = d
		}
	}
	return m
}

// inside returns the types of the variables of the program, or of a function.
func (m measure) inside(decls ...[]api.Decl) map[string]api.Type {
	found := map[string]api.Type{}
	for _, list := range decls {
		for _, d := range list {
			if d.Kind != api.TypeDecl && d.Kind != api.HatchDecl && d.Kind != api.FuncDecl {
				found[d.Name], _ = types.Expand(m.program.Decls, d.Type)
			}
		}
	}
	return found
}

func typeAt(place api.Expr, in map[string]api.Type) api.Type {
	switch place.Op {
	case api.OpField:
		t := typeAt(place.Kids[0], in)
		return t.Of[slices.Index(t.Names, place.Name)]
	case api.OpIndex:
		return typeAt(place.Kids[0], in).Of[0]
	}
	return in[place.Name]
}

func scalarCount(t api.Type) int64 {
	scalars, _ := types.Scalars(t)
	return int64(len(scalars))
}

// nodesOf returns all nodes of an expression, and its depth.
func nodesOf(e api.Expr) (list []api.Expr, depth int) {
	for level := []api.Expr{e}; len(level) > 0; depth++ {
		list = append(list, level...)
		var next []api.Expr
		for _, node := range level {
			next = append(next, node.Kids...)
		}
		level = next
	}
	return list, depth
}

func times(a, b *big.Int) *big.Int { return new(big.Int).Mul(a, b) }

func plus(list ...*big.Int) *big.Int {
	total := new(big.Int)
	for _, n := range list {
		total.Add(total, n)
	}
	return total
}

func (m measure) expr(e api.Expr, in map[string]api.Type) *big.Int {
	list, _ := nodesOf(e)
	total := big.NewInt(int64(len(list)))
	for _, node := range list {
		if node.Op == api.OpIndex {
			total = times(total, big.NewInt(int64(typeAt(node.Kids[0], in).Size)))
		}
	}
	return total
}

func (m measure) stmts(list []api.Stmt, in map[string]api.Type) *big.Int {
	total := new(big.Int)
	for _, s := range list {
		total.Add(total, m.stmt(s, in))
	}
	return total
}

func (m measure) stmt(s api.Stmt, in map[string]api.Type) *big.Int {
	two, size := big.NewInt(2), big.NewInt(1)
	if s.Verb == api.SetStmt || s.Verb == api.CallStmt {
		size = big.NewInt(scalarCount(typeAt(s.Place, in)))
	}
	switch s.Verb {
	case api.SetStmt:
		return plus(two, times(size, plus(m.expr(s.Place, in), m.expr(s.Value, in))))
	case api.CallStmt:
		d := m.functions[s.Name]
		own := m.inside(d.Params, d.Vars)
		total := plus(two, m.stmts(d.Body, own), times(size, plus(two, m.expr(d.Value, own), m.expr(s.Place, in))))
		for i, param := range d.Params {
			total.Add(total, times(big.NewInt(scalarCount(own[param.Name])), plus(two, m.expr(s.Args[i], in))))
		}
		for _, v := range d.Vars {
			total.Add(total, big.NewInt(scalarCount(own[v.Name])))
		}
		return total
	case api.ReleaseStmt:
		return plus(two, m.expr(s.Place, in))
	case api.OutputStmt:
		return plus(two, m.expr(s.Value, in))
	case api.IfStmt, api.WhileStmt:
		return plus(two, m.expr(s.Value, in), m.stmts(s.Then, in), m.stmts(s.Else, in))
	case api.ForStmt:
		return plus(two, two, m.stmts(s.Then, in))
	}
	return big.NewInt(1)
}

func (m measure) weight() int {
	in := m.inside(m.program.Decls)
	total := m.stmts(m.program.Body, in)
	for _, t := range in {
		total.Add(total, big.NewInt(scalarCount(t)))
	}
	for _, d := range m.program.Decls {
		if d.Kind == api.HatchDecl {
			total.Add(total, plus(big.NewInt(2), m.expr(d.Value, in)))
		}
	}
	if !total.IsInt64() || total.Int64() > 100_000 {
		return 100_000
	}
	return int(total.Int64())
}

// calls returns the calls that stand in statements after all functions are inlined, and the greatest nesting of a statement,
// where the statements begin at a nesting.
func (m measure) calls(list []api.Stmt, nesting int) (found []string, deepest int) {
	for _, s := range list {
		deepest = max(deepest, nesting)
		inside := [][]api.Stmt{s.Then, s.Else}
		if s.Verb == api.CallStmt {
			found = append(found, s.Name)
			inside = append(inside, m.functions[s.Name].Body)
		}
		for _, part := range inside {
			more, deeper := m.calls(part, nesting+1)
			found, deepest = append(found, more...), max(deepest, deeper)
		}
	}
	return found, deepest
}

func (m measure) slots() int {
	total := int64(0)
	for _, t := range m.inside(m.program.Decls) {
		total += scalarCount(t)
	}
	calls, _ := m.calls(m.program.Body, 1)
	for _, name := range calls {
		d := m.functions[name]
		for _, t := range m.inside(d.Params, d.Vars) {
			total += scalarCount(t)
		}
		result, _ := types.Expand(m.program.Decls, d.Type)
		total += scalarCount(result)
	}
	return int(total)
}

// exprs returns all expressions of statements.
func exprs(list []api.Stmt) []api.Expr {
	var found []api.Expr
	for _, s := range list {
		found = append(found, s.Place, s.Value)
		found = slices.Concat(found, s.Args, exprs(s.Then), exprs(s.Else))
	}
	return found
}

// isLight reports whether a program is light.
func (m measure) isLight() bool {
	steps, code := typecheck.Steps(m.program)
	_, nesting := m.calls(m.program.Body, 1)
	if code != api.OK || m.weight() > 100 || steps > 30 || m.slots() > 32 || nesting > 5 {
		return false
	}
	all := exprs(m.program.Body)
	for _, d := range m.program.Decls {
		all = append(all, d.Value)
		all = append(all, exprs(d.Body)...)
	}
	isDeep := func(e api.Expr) bool {
		_, depth := nodesOf(e)
		return depth > 5
	}
	return !slices.ContainsFunc(all, isDeep) && !slices.ContainsFunc(inputVars(m.program), func(v api.Var) bool { return len(v.Name) > 40 })
}
