package types

import (
	"slices"

	"keyhole/api"
	"keyhole/syntax"
)

// Expand returns t with the names of the type declarations of decls replaced by their types.
func Expand(decls []api.Decl, t api.Type) (api.Type, api.Code) {
	declared := scope{}
	for _, d := range decls {
		if d.Kind != api.TypeDecl {
			continue
		}
		if code := declared.declare(d); code != api.OK {
			return api.Type{}, code
		}
	}
	return declared.expand(t)
}

// scope has the expanded types of the names that are declared so far.
type scope map[string]api.Type

// declare adds the type that d declares.
func (s scope) declare(d api.Decl) api.Code {
	if !syntax.IsName(d.Name) {
		return api.ErrName
	}
	if _, ok := s[d.Name]; ok {
		return api.ErrDuplicate
	}
	expanded, code := s.expand(d.Type)
	if code == api.OK {
		s[d.Name] = expanded
	}
	return code
}

// expand returns t with the declared names replaced by their types.
func (s scope) expand(t api.Type) (api.Type, api.Code) {
	if code := syntax.CheckType(t); code != api.OK {
		return api.Type{}, code
	}
	unknown := func(t api.Type) bool {
		_, ok := s[t.Name]
		return t.Kind == api.TypeName && !ok
	}
	if anywhere(t, unknown) {
		return api.Type{}, api.ErrName
	}
	expanded := s.replaced(t)
	if code := checkExpanded(expanded); code != api.OK {
		return api.Type{}, code
	}
	return expanded, api.OK
}

// replaced returns a copy of t with the names of the scope replaced by copies of their types.
func (s scope) replaced(t api.Type) api.Type {
	if t.Kind == api.TypeName {
		return copied(s[t.Name])
	}
	return rebuilt(t, s.replaced)
}

// copied returns t in memory of its own.
func copied(t api.Type) api.Type {
	return rebuilt(t, copied)
}

// rebuilt returns t with new lists, in which stands what change makes of its components.
func rebuilt(t api.Type, change func(api.Type) api.Type) api.Type {
	t.Names = slices.Clone(t.Names)
	components := t.Of
	t.Of = nil
	for _, of := range components {
		t.Of = append(t.Of, change(of))
	}
	return t
}
