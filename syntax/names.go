package syntax

import (
	"maps"
	"slices"

	"keyhole/api"
)

// Names returns the names that occur in p, in ascending order, each once.
func Names(p api.Program) ([]string, api.Code) {
	if code := Check(p); code != api.OK {
		return nil, code
	}
	found := map[string]bool{}
	walkProgram(p, func(node any) {
		if name := nameOf(node); name != "" {
			found[name] = true
		}
	})
	return slices.Sorted(maps.Keys(found)), api.OK
}

// nameOf returns the name that a node of a well-formed program declares or refers to, or "". The names of components are
// none of these.
func nameOf(node any) string {
	switch n := node.(type) {
	case api.Decl:
		return n.Name
	case api.Stmt:
		return n.Name
	case api.Type:
		return n.Name
	case api.Expr:
		if n.Op == api.OpName {
			return n.Name
		}
	}
	return ""
}

// Rename returns p with the name to in place of the name from.
func Rename(p api.Program, from, to string) (api.Program, api.Code) {
	names, code := Names(p)
	switch {
	case code != api.OK:
		return api.Program{}, code
	case !IsName(from) || !IsName(to):
		return api.Program{}, api.ErrName
	case to != from && slices.Contains(names, to):
		return api.Program{}, api.ErrDuplicate
	}
	r := renamer{from, to}
	return api.Program{Decls: mapped(p.Decls, r.decl), Body: mapped(p.Body, r.stmt)}, api.OK
}

// mapped returns what f makes of the elements of the list.
func mapped[T any](list []T, f func(T) T) []T {
	var result []T
	for _, element := range list {
		result = append(result, f(element))
	}
	return result
}

// renamer returns copies of nodes of well-formed programs, with the name to in place of the name from.
type renamer struct {
	from, to string
}

func (r renamer) name(name string) string {
	if name == r.from {
		return r.to
	}
	return name
}

func (r renamer) decl(d api.Decl) api.Decl {
	d.Name = r.name(d.Name)
	d.Type = r.kind(d.Type)
	d.Value = r.expr(d.Value)
	d.Params = mapped(d.Params, r.decl)
	d.Vars = mapped(d.Vars, r.decl)
	d.Body = mapped(d.Body, r.stmt)
	return d
}

func (r renamer) stmt(s api.Stmt) api.Stmt {
	s.Place = r.expr(s.Place)
	s.Value = r.expr(s.Value)
	s.Name = r.name(s.Name)
	s.Args = mapped(s.Args, r.expr)
	s.Numbers = slices.Clone(s.Numbers)
	s.Then = mapped(s.Then, r.stmt)
	s.Else = mapped(s.Else, r.stmt)
	return s
}

func (r renamer) expr(e api.Expr) api.Expr {
	if e.Op == api.OpName {
		e.Name = r.name(e.Name)
	}
	e.Kids = mapped(e.Kids, r.expr)
	return e
}

func (r renamer) kind(t api.Type) api.Type {
	t.Name = r.name(t.Name)
	t.Names = slices.Clone(t.Names)
	t.Of = mapped(t.Of, r.kind)
	return t
}
