package syntax

import (
	"slices"

	"keyhole/api"
)

// faults is a set of conditions that a node violates, beside the limits.
type faults int

// The conditions, in the order in which they are asked.
const (
	malformed faults = 1 << iota
	misnamed
	outOfRange
)

// when returns the fault if it is found, otherwise no fault.
func when(found bool, fault faults) faults {
	if found {
		return fault
	}
	return 0
}

// faultsOf returns the faults of a node alone, without the nodes within it.
func faultsOf(node any) faults {
	switch n := node.(type) {
	case api.Decl:
		return faultsOfDecl(n)
	case api.Stmt:
		return faultsOfStmt(n)
	case api.Expr:
		return faultsOfExpr(n)
	case api.Type:
		return faultsOfType(n)
	}
	return 0
}

// within reports whether n is a number from low to high.
func within(n, low, high int) bool {
	return n >= low && n <= high
}

// isInterval reports whether low and high are numbers of the language, the first one at most the second one.
func isInterval(low, high int) bool {
	return low <= high && within(low, -api.MaxInt, api.MaxInt) && within(high, -api.MaxInt, api.MaxInt)
}

// isPlace reports whether e begins like a place. The kids of places are looked at for themselves.
func isPlace(e api.Expr) bool {
	return within(int(e.Op), int(api.OpName), int(api.OpIndex))
}

func faultsOfExpr(e api.Expr) faults {
	if !occurs(e.Op, len(operators)) {
		return malformed
	}
	o := operators[e.Op]
	isForm := fieldsOfExpr(e)&^o.uses == 0 && len(e.Kids) == o.kids
	// The first kid of a component is a place too.
	isForm = isForm && (e.Op != api.OpField && e.Op != api.OpIndex || isPlace(e.Kids[0]))
	return when(!isForm, malformed) |
		when(o.uses&fieldName != 0 && !IsName(e.Name), misnamed) |
		when(e.Op == api.OpLit && !within(e.N, 0, api.MaxInt), outOfRange)
}

func faultsOfType(t api.Type) faults {
	if !occurs(t.Kind, len(typeFields)) {
		return malformed
	}
	isForm := fieldsOfType(t)&^typeFields[t.Kind] == 0
	isNamed, inRange := true, true
	switch t.Kind {
	case api.TypeInt:
		inRange = isInterval(t.Low, t.High)
	case api.TypeArray:
		isForm = isForm && len(t.Of) == 1
		inRange = within(t.Size, 1, api.MaxScalars)
	case api.TypeRecord:
		isForm = isForm && len(t.Of) >= 1 && len(t.Of) == len(t.Names)
		isNamed = !slices.ContainsFunc(t.Names, func(name string) bool { return !IsName(name) })
		inRange = len(t.Of) <= api.MaxScalars
	case api.TypeName:
		isNamed = IsName(t.Name)
	}
	return when(!isForm, malformed) | when(!isNamed, misnamed) | when(!inRange, outOfRange)
}

func faultsOfStmt(s api.Stmt) faults {
	if !occurs(s.Verb, len(stmtFields)) {
		return malformed
	}
	used := stmtFields[s.Verb]
	inRange := true
	switch s.Verb {
	case api.WaitStmt:
		inRange = within(s.N, 0, api.MaxInt)
	case api.WhileStmt:
		inRange = within(s.N, 0, api.MaxRun)
	case api.ForStmt:
		inRange = isInterval(s.Low, s.High) && s.High-s.Low+1 <= api.MaxRun
	case api.SettleStmt:
		inRange = areBounds(s.Numbers)
	}
	return when(fieldsOfStmt(s)&^used != 0, malformed) |
		when(used&fieldPlace != 0 && !isPlace(s.Place), malformed) |
		when(used&fieldName != 0 && !IsName(s.Name), misnamed) |
		when(!inRange, outOfRange)
}

// areBounds reports whether a statement may settle the time at the numbers.
func areBounds(numbers []int) bool {
	last := -1
	for _, n := range numbers {
		if !within(n, last+1, api.MaxInt) {
			return false
		}
		last = n
	}
	return within(len(numbers), 1, api.MaxGroups)
}

func faultsOfDecl(d api.Decl) faults {
	if !occurs(d.Kind, len(declFields)) {
		return malformed
	}
	isForm := fieldsOfDecl(d)&^declFields[d.Kind] == 0
	for _, param := range d.Params {
		isForm = isForm && param.Kind == api.VarDecl && param.Init == 0
	}
	for _, variable := range d.Vars {
		isForm = isForm && variable.Kind == api.VarDecl
	}
	inRange := within(d.Init, -api.MaxInt, api.MaxInt)
	if d.Type.Kind == api.TypeBool {
		inRange = within(d.Init, 0, 1)
	}
	return when(!isForm, malformed) | when(!IsName(d.Name), misnamed) | when(!inRange, outOfRange)
}
