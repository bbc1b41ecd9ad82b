package typecheck

import (
	"cmp"

	"keyhole/api"
)

// block is where statements stand. Its methods return the code of the first error of statements that are well formed.
type block struct {
	checker    *checker
	scope      *scope
	isBody     bool // it is the Body of the program itself, not a part of it
	inFunction bool
}

func (b block) lookup() lookup {
	return b.scope.find
}

// within returns a block within this one.
func (b block) within(s *scope) block {
	b.scope, b.isBody = s, false
	return b
}

func (b block) stmts(list []api.Stmt) api.Code {
	for i, s := range list {
		isLast := b.isBody && i == len(list)-1
		if s.Verb == api.SettleStmt && !isLast {
			return api.ErrState
		}
		if code := b.stmt(s); code != api.OK {
			return code
		}
	}
	return api.OK
}

// stmt checks a statement, but not where it stands.
func (b block) stmt(s api.Stmt) api.Code {
	switch s.Verb {
	case api.SetStmt:
		return b.set(s)
	case api.CallStmt:
		return b.call(s)
	case api.ReleaseStmt:
		return b.release(s)
	case api.OutputStmt:
		return b.output(s)
	case api.IfStmt:
		inner := b.within(b.scope)
		return cmp.Or(b.lookup().fits(s.Value, truth()), inner.stmts(s.Then), inner.stmts(s.Else))
	case api.WhileStmt:
		return cmp.Or(b.lookup().fits(s.Value, truth()), b.within(b.scope).stmts(s.Then))
	case api.ForStmt:
		return b.loop(s)
	}
	return api.OK
}

// place returns the type of a place that a statement assigns.
func (b block) place(place api.Expr) (api.Type, api.Code) {
	t, code := b.lookup().typeOf(place)
	if code != api.OK {
		return api.Type{}, code
	}
	if v, _ := b.scope.find(root(place)); v.readOnly {
		return api.Type{}, api.ErrState
	}
	return t, api.OK
}

// root returns the name of the variable of which a place is a component.
func root(place api.Expr) string {
	for place.Op != api.OpName {
		place = place.Kids[0]
	}
	return place.Name
}

func (b block) set(s api.Stmt) api.Code {
	place, code := b.place(s.Place)
	if code != api.OK {
		return code
	}
	return b.lookup().fits(s.Value, place)
}

func (b block) call(s api.Stmt) api.Code {
	place, code := b.place(s.Place)
	if code != api.OK {
		return code
	}
	f, ok := b.checker.functions[s.Name]
	switch {
	case !ok:
		return api.ErrName
	case len(s.Args) != len(f.params):
		return api.ErrMismatch
	}
	for i, argument := range s.Args {
		if code := b.lookup().fits(argument, f.params[i]); code != api.OK {
			return code
		}
	}
	return unless(assignable(f.result, place), api.ErrType)
}

func (b block) release(s api.Stmt) api.Code {
	place, code := b.place(s.Place)
	if code != api.OK {
		return code
	}
	hatch, ok := b.checker.hatches[s.Name]
	return cmp.Or(unless(!b.inFunction, api.ErrState), unless(ok, api.ErrName), unless(assignable(hatch, place), api.ErrType))
}

func (b block) output(s api.Stmt) api.Code {
	t, code := b.lookup().typeOf(s.Value)
	return cmp.Or(code, unless(isScalar(t), api.ErrType))
}

// loop checks a for statement.
func (b block) loop(s api.Stmt) api.Code {
	if _, ok := b.scope.find(s.Name); ok || b.checker.names[s.Name] {
		return api.ErrDuplicate
	}
	inner := newScope(b.scope)
	inner.add(s.Name, variable{numbers(interval{s.Low, s.High}), true})
	return b.within(inner).stmts(s.Then)
}

// unless returns the code of an error, or OK if the condition holds.
func unless(holds bool, code api.Code) api.Code {
	if holds {
		return api.OK
	}
	return code
}
