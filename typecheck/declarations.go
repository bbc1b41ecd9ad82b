package typecheck

import (
	"cmp"

	"keyhole/api"
	"keyhole/syntax"
	"keyhole/types"
)

// checker knows the declarations of a program that it has checked so far.
type checker struct {
	names     map[string]bool // of all declarations of the program
	types     []api.Decl      // the type declarations, with expanded types
	inputs    *scope
	variables *scope // and around it the inputs
	hatches   map[string]api.Type
	functions map[string]function
	scalars   map[api.DeclKind][]api.Scalar // of the inputs and variables
}

// function is a function with the expanded types of its parameters and its result.
type function struct {
	params []api.Type
	result api.Type
	work   work
}

// check returns what is to be known of the declarations of p if there is no error, otherwise the index of the declaration
// with the first error and its code.
func check(p api.Program) (*checker, int, api.Code) {
	if code := syntax.Check(p); code != api.OK {
		return nil, -1, code
	}
	inputs := newScope(nil)
	c := &checker{
		names:     map[string]bool{},
		inputs:    inputs,
		variables: newScope(inputs),
		hatches:   map[string]api.Type{},
		functions: map[string]function{},
		scalars:   map[api.DeclKind][]api.Scalar{},
	}
	if at := c.firstTwin(p.Decls); at >= 0 {
		return nil, at, api.ErrDuplicate
	}
	for i, d := range p.Decls {
		if code := c.declare(d); code != api.OK {
			return nil, i, code
		}
	}
	body := block{checker: c, scope: c.variables, isBody: true}
	if code := cmp.Or(body.stmts(p.Body), unless(c.isWithinLimits(p.Body), api.ErrLimit)); code != api.OK {
		return nil, -1, code
	}
	return c, -1, api.OK
}

// firstTwin notes the names of the declarations, and returns the index of the first one that has a name twice, or -1.
func (c *checker) firstTwin(decls []api.Decl) int {
	earlier := map[string]bool{}
	for _, d := range decls {
		c.names[d.Name] = true
	}
	for i, d := range decls {
		if earlier[d.Name] || c.hasTwins(d) {
			return i
		}
		earlier[d.Name] = true
	}
	return -1
}

// hasTwins reports whether a parameter or a variable of a function has the name of a declaration or of an earlier one.
func (c *checker) hasTwins(d api.Decl) bool {
	earlier := map[string]bool{}
	for _, list := range [][]api.Decl{d.Params, d.Vars} {
		for _, v := range list {
			if c.names[v.Name] || earlier[v.Name] {
				return true
			}
			earlier[v.Name] = true
		}
	}
	return false
}

// declare checks a declaration, and adds it to what is known.
func (c *checker) declare(d api.Decl) api.Code {
	t, code := c.expand(d.Type)
	if code != api.OK {
		return code
	}
	switch d.Kind {
	case api.TypeDecl:
		c.types = append(c.types, api.Decl{Kind: api.TypeDecl, Name: d.Name, Type: t})
	case api.SecretDecl, api.PublicDecl, api.RandomDecl:
		c.inputs.add(d.Name, variable{t, true})
		c.count(d.Kind, t)
	case api.VarDecl:
		c.variables.add(d.Name, variable{t, false})
		c.count(d.Kind, t)
	case api.HatchDecl:
		c.hatches[d.Name] = t
		return cmp.Or(unless(isScalar(t), api.ErrType), lookup(c.inputs.find).fits(d.Value, t))
	case api.FuncDecl:
		return c.function(d, t)
	}
	return api.OK
}

// expand returns t with the declared names replaced. Only the declarations that t names are handed on, so that a long chain
// of declared types is not expanded again for each declaration.
func (c *checker) expand(t api.Type) (api.Type, api.Code) {
	var used []api.Decl
	for _, d := range c.types {
		if mentions(t, d.Name) {
			used = append(used, d)
		}
	}
	return types.Expand(used, t)
}

// mentions reports whether the declared name occurs in t.
func mentions(t api.Type, name string) bool {
	for _, of := range t.Of {
		if mentions(of, name) {
			return true
		}
	}
	return t.Kind == api.TypeName && t.Name == name
}

// count notes the scalars of an input or a variable with the expanded type.
func (c *checker) count(kind api.DeclKind, t api.Type) {
	scalars, _ := types.Scalars(t)
	c.scalars[kind] = append(c.scalars[kind], scalars...)
}

// function checks a function with the expanded type of its result. It may call only functions that are known before it.
func (c *checker) function(d api.Decl, result api.Type) api.Code {
	local := newScope(nil)
	params, code := c.locals(local, d.Params)
	if code != api.OK {
		return code
	}
	if _, code := c.locals(local, d.Vars); code != api.OK {
		return code
	}
	body := block{checker: c, scope: local, inFunction: true}
	if code := cmp.Or(body.stmts(d.Body), body.lookup().fits(d.Value, result)); code != api.OK {
		return code
	}
	c.functions[d.Name] = function{params, result, c.workOf(d.Body)}
	return api.OK
}

// locals adds parameters or variables of a function to its scope, and returns their expanded types.
func (c *checker) locals(s *scope, list []api.Decl) ([]api.Type, api.Code) {
	var expanded []api.Type
	for _, d := range list {
		t, code := c.expand(d.Type)
		if code != api.OK {
			return nil, code
		}
		s.add(d.Name, variable{t, false})
		expanded = append(expanded, t)
	}
	return expanded, api.OK
}
