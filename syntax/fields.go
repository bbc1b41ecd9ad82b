package syntax

import "keyhole/api"

// fields is a set of fields of a node.
type fields int

// The fields of nodes. Those that are used together are one field here.
const (
	fieldN fields = 1 << iota
	fieldName
	fieldKids
	fieldBounds // Low, High
	fieldSize
	fieldNames
	fieldOf
	fieldPlace
	fieldValue
	fieldArgs
	fieldNumbers
	fieldThen
	fieldElse
	fieldType
	fieldInit
	fieldParts // Params, Vars, Body
)

// The levels of expressions: how tightly their operators bind.
const (
	levelCond = iota
	levelOr
	levelAnd
	levelCompare
	levelAdd
	levelMul
	levelUnary
	levelAtom
)

// operator says how an operator is used and written: how many kids it has, how it binds, and which level each kid needs in
// order to stand without parentheses.
type operator struct {
	uses  fields
	kids  int
	sign  string
	level int
	needs [3]int
}

// operators has a row for each operator of expressions.
var operators = [...]operator{
	api.OpLit:   {uses: fieldN, level: levelAtom},
	api.OpTrue:  {sign: "true", level: levelAtom},
	api.OpFalse: {sign: "false", level: levelAtom},
	api.OpName:  {uses: fieldName, level: levelAtom},
	api.OpField: {uses: fieldName | fieldKids, kids: 1, level: levelAtom},
	api.OpIndex: {uses: fieldKids, kids: 2, level: levelAtom},
	api.OpNeg:   {uses: fieldKids, kids: 1, sign: "-", level: levelUnary, needs: [3]int{levelUnary}},
	api.OpNot:   {uses: fieldKids, kids: 1, sign: "!", level: levelUnary, needs: [3]int{levelUnary}},
	api.OpAdd:   {uses: fieldKids, kids: 2, sign: "+", level: levelAdd, needs: [3]int{levelAdd, levelMul}},
	api.OpSub:   {uses: fieldKids, kids: 2, sign: "-", level: levelAdd, needs: [3]int{levelAdd, levelMul}},
	api.OpMul:   {uses: fieldKids, kids: 2, sign: "*", level: levelMul, needs: [3]int{levelMul, levelUnary}},
	api.OpDiv:   {uses: fieldKids, kids: 2, sign: "/", level: levelMul, needs: [3]int{levelMul, levelUnary}},
	api.OpMod:   {uses: fieldKids, kids: 2, sign: "%", level: levelMul, needs: [3]int{levelMul, levelUnary}},
	api.OpEq:    {uses: fieldKids, kids: 2, sign: "==", level: levelCompare, needs: [3]int{levelAdd, levelAdd}},
	api.OpNe:    {uses: fieldKids, kids: 2, sign: "!=", level: levelCompare, needs: [3]int{levelAdd, levelAdd}},
	api.OpLt:    {uses: fieldKids, kids: 2, sign: "<", level: levelCompare, needs: [3]int{levelAdd, levelAdd}},
	api.OpLe:    {uses: fieldKids, kids: 2, sign: "<=", level: levelCompare, needs: [3]int{levelAdd, levelAdd}},
	api.OpGt:    {uses: fieldKids, kids: 2, sign: ">", level: levelCompare, needs: [3]int{levelAdd, levelAdd}},
	api.OpGe:    {uses: fieldKids, kids: 2, sign: ">=", level: levelCompare, needs: [3]int{levelAdd, levelAdd}},
	api.OpAnd:   {uses: fieldKids, kids: 2, sign: "&&", level: levelAnd, needs: [3]int{levelAnd, levelCompare}},
	api.OpOr:    {uses: fieldKids, kids: 2, sign: "||", level: levelOr, needs: [3]int{levelOr, levelAnd}},
	api.OpMin:   {uses: fieldKids, kids: 2, sign: "min", level: levelAtom},
	api.OpMax:   {uses: fieldKids, kids: 2, sign: "max", level: levelAtom},
	api.OpCond:  {uses: fieldKids, kids: 3, level: levelCond, needs: [3]int{levelOr}},
}

// typeFields, stmtFields and declFields have the fields that each kind of node uses.
var (
	typeFields = [...]fields{
		api.TypeBool:   0,
		api.TypeInt:    fieldBounds,
		api.TypeArray:  fieldSize | fieldOf,
		api.TypeRecord: fieldNames | fieldOf,
		api.TypeName:   fieldName,
	}
	stmtFields = [...]fields{
		api.SetStmt:     fieldPlace | fieldValue,
		api.CallStmt:    fieldPlace | fieldName | fieldArgs,
		api.ReleaseStmt: fieldPlace | fieldName,
		api.OutputStmt:  fieldValue,
		api.WaitStmt:    fieldN,
		api.IfStmt:      fieldValue | fieldThen | fieldElse,
		api.WhileStmt:   fieldValue | fieldN | fieldThen,
		api.ForStmt:     fieldName | fieldBounds | fieldThen,
		api.SettleStmt:  fieldNumbers,
	}
	declFields = [...]fields{
		api.TypeDecl:   fieldName | fieldType,
		api.SecretDecl: fieldName | fieldType,
		api.PublicDecl: fieldName | fieldType,
		api.RandomDecl: fieldName | fieldType,
		api.VarDecl:    fieldName | fieldType | fieldInit,
		api.HatchDecl:  fieldName | fieldType | fieldValue,
		api.FuncDecl:   fieldName | fieldType | fieldValue | fieldParts,
	}
)

// occurs reports whether a kind of node is an index of its table with the given number of rows.
func occurs[K ~int](kind K, rows int) bool {
	return kind >= 0 && int(kind) < rows
}

// usedInStmt returns the fields that a kind of statement uses, none if it does not occur.
func usedInStmt(verb api.Verb) fields {
	if !occurs(verb, len(stmtFields)) {
		return 0
	}
	return stmtFields[verb]
}

// usedInDecl returns the fields that a kind of declaration uses, none if it does not occur.
func usedInDecl(kind api.DeclKind) fields {
	if !occurs(kind, len(declFields)) {
		return 0
	}
	return declFields[kind]
}

// set returns the field if it has a value, otherwise no field.
func set(field fields, hasValue bool) fields {
	if hasValue {
		return field
	}
	return 0
}

// fieldsOfExpr returns the fields of e that are not zero.
func fieldsOfExpr(e api.Expr) fields {
	return set(fieldN, e.N != 0) | set(fieldName, e.Name != "") | set(fieldKids, len(e.Kids) > 0)
}

// fieldsOfType returns the fields of t that are not zero.
func fieldsOfType(t api.Type) fields {
	return set(fieldBounds, t.Low != 0 || t.High != 0) | set(fieldSize, t.Size != 0) | set(fieldName, t.Name != "") |
		set(fieldNames, len(t.Names) > 0) | set(fieldOf, len(t.Of) > 0)
}

// fieldsOfStmt returns the fields of s that are not zero.
func fieldsOfStmt(s api.Stmt) fields {
	return set(fieldPlace, !isZeroExpr(s.Place)) | set(fieldValue, !isZeroExpr(s.Value)) | set(fieldName, s.Name != "") |
		set(fieldArgs, len(s.Args) > 0) | set(fieldN, s.N != 0) | set(fieldBounds, s.Low != 0 || s.High != 0) |
		set(fieldNumbers, len(s.Numbers) > 0) | set(fieldThen, len(s.Then) > 0) | set(fieldElse, len(s.Else) > 0)
}

// fieldsOfDecl returns the fields of d that are not zero.
func fieldsOfDecl(d api.Decl) fields {
	return set(fieldName, d.Name != "") | set(fieldType, !isZeroType(d.Type)) | set(fieldInit, d.Init != 0) |
		set(fieldValue, !isZeroExpr(d.Value)) | set(fieldParts, len(d.Params)+len(d.Vars)+len(d.Body) > 0)
}
