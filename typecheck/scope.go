package typecheck

import "keyhole/api"

// variable is a variable with its expanded type.
type variable struct {
	of       api.Type
	readOnly bool
}

// scope has variables by their names, and leads to those that are visible beside them.
type scope struct {
	variables map[string]variable
	around    *scope // nil: nothing else is visible
}

func newScope(around *scope) *scope {
	return &scope{map[string]variable{}, around}
}

func (s *scope) add(name string, v variable) {
	s.variables[name] = v
}

// find returns the visible variable with the name, if there is one.
func (s *scope) find(name string) (variable, bool) {
	for ; s != nil; s = s.around {
		if v, ok := s.variables[name]; ok {
			return v, true
		}
	}
	return variable{}, false
}
