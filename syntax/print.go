package syntax

import (
	"strconv"
	"strings"

	"keyhole/api"
)

// Print returns the canonical text of p.
func Print(p api.Program) (string, api.Code) {
	if code := Check(p); code != api.OK {
		return "", code
	}
	var lines printer
	for _, d := range p.Decls {
		lines.decl(d)
	}
	lines.line("begin")
	lines.inner(func() { lines.stmts(p.Body) })
	lines.line("end")
	return limited(lines.text.String())
}

// PrintExpr returns the canonical text of e.
func PrintExpr(e api.Expr) (string, api.Code) {
	if code := CheckExpr(e); code != api.OK {
		return "", code
	}
	return limited(exprText(e))
}

// PrintType returns the canonical text of t.
func PrintType(t api.Type) (string, api.Code) {
	if code := CheckType(t); code != api.OK {
		return "", code
	}
	return limited(typeText(t))
}

// limited returns the text, unless it is too long.
func limited(text string) (string, api.Code) {
	if len(text) > api.MaxText {
		return "", api.ErrLong
	}
	return text, api.OK
}

// texts returns the texts of the elements of a list, separated by commas.
func texts[T any](list []T, text func(T) string) string {
	parts := make([]string, len(list))
	for i, element := range list {
		parts[i] = text(element)
	}
	return strings.Join(parts, ", ")
}

// exprText returns the text of a well-formed expression.
func exprText(e api.Expr) string {
	o := operators[e.Op]
	kid := func(i int) string {
		if operators[e.Kids[i].Op].level < o.needs[i] {
			return "(" + exprText(e.Kids[i]) + ")"
		}
		return exprText(e.Kids[i])
	}
	switch e.Op {
	case api.OpLit:
		return strconv.Itoa(e.N)
	case api.OpTrue, api.OpFalse:
		return o.sign
	case api.OpName:
		return e.Name
	case api.OpField:
		return kid(0) + "." + e.Name
	case api.OpIndex:
		return kid(0) + "[" + kid(1) + "]"
	case api.OpNeg, api.OpNot:
		return o.sign + kid(0)
	case api.OpMin, api.OpMax:
		return o.sign + "(" + kid(0) + ", " + kid(1) + ")"
	case api.OpCond:
		return kid(0) + " ? " + kid(1) + " : " + kid(2)
	}
	return kid(0) + " " + o.sign + " " + kid(1)
}

// typeText returns the text of a well-formed type.
func typeText(t api.Type) string {
	switch t.Kind {
	case api.TypeInt:
		return "int[" + strconv.Itoa(t.Low) + ".." + strconv.Itoa(t.High) + "]"
	case api.TypeArray:
		return "array " + strconv.Itoa(t.Size) + " of " + typeText(t.Of[0])
	case api.TypeRecord:
		components := make([]string, len(t.Of))
		for i, of := range t.Of {
			components[i] = t.Names[i] + ": " + typeText(of)
		}
		return "record {" + strings.Join(components, ", ") + "}"
	case api.TypeName:
		return t.Name
	}
	return "bool"
}

// printer collects the lines of a program. Each begins with the given number of tabs.
type printer struct {
	text strings.Builder
	tabs int
}

// line adds a line that consists of the parts.
func (p *printer) line(parts ...string) {
	p.text.WriteString(strings.Repeat("\t", p.tabs))
	for _, part := range parts {
		p.text.WriteString(part)
	}
	p.text.WriteByte('\n')
}

// inner adds the lines that add adds, with one more tab.
func (p *printer) inner(add func()) {
	p.tabs++
	add()
	p.tabs--
}

// typed returns the name and the type of a declaration.
func typed(d api.Decl) string {
	return d.Name + ": " + typeText(d.Type)
}

func (p *printer) decl(d api.Decl) {
	switch d.Kind {
	case api.TypeDecl:
		p.line("type ", d.Name, " = ", typeText(d.Type), ";")
	case api.SecretDecl:
		p.line("secret ", typed(d), ";")
	case api.PublicDecl:
		p.line("public ", typed(d), ";")
	case api.RandomDecl:
		p.line("random ", typed(d), ";")
	case api.VarDecl:
		p.line("var ", typed(d), initText(d), ";")
	case api.HatchDecl:
		p.line("hatch ", typed(d), " = ", exprText(d.Value), ";")
	case api.FuncDecl:
		p.function(d)
	}
}

// initText returns the part of the declaration of a variable that gives its value, if that is not 0.
func initText(d api.Decl) string {
	switch {
	case d.Init == 0:
		return ""
	case d.Type.Kind == api.TypeBool:
		return " = true"
	}
	return " = " + strconv.Itoa(d.Init)
}

func (p *printer) function(d api.Decl) {
	p.line("func ", d.Name, "(", texts(d.Params, typed), "): ", typeText(d.Type), " {")
	p.inner(func() {
		for _, variable := range d.Vars {
			p.decl(variable)
		}
		p.stmts(d.Body)
		p.line("return ", exprText(d.Value), ";")
	})
	p.line("}")
}

func (p *printer) stmts(list []api.Stmt) {
	for _, s := range list {
		p.stmt(s)
	}
}

func (p *printer) stmt(s api.Stmt) {
	switch s.Verb {
	case api.SetStmt:
		p.line(exprText(s.Place), " = ", exprText(s.Value), ";")
	case api.CallStmt:
		p.line(exprText(s.Place), " = call ", s.Name, "(", texts(s.Args, exprText), ");")
	case api.ReleaseStmt:
		p.line(exprText(s.Place), " = release ", s.Name, ";")
	case api.OutputStmt:
		p.line("output ", exprText(s.Value), ";")
	case api.WaitStmt:
		p.line("wait ", strconv.Itoa(s.N), ";")
	case api.IfStmt:
		p.line("if ", exprText(s.Value), " {")
		p.inner(func() { p.stmts(s.Then) })
		if len(s.Else) > 0 {
			p.line("} else {")
			p.inner(func() { p.stmts(s.Else) })
		}
		p.line("}")
	case api.WhileStmt:
		p.block("while "+exprText(s.Value)+" limit "+strconv.Itoa(s.N), s.Then)
	case api.ForStmt:
		p.block("for "+s.Name+" = "+strconv.Itoa(s.Low)+" to "+strconv.Itoa(s.High), s.Then)
	case api.SettleStmt:
		p.line("settle ", texts(s.Numbers, strconv.Itoa), ";")
	}
}

// block adds a statement that consists of a head and of statements in braces.
func (p *printer) block(head string, body []api.Stmt) {
	p.line(head, " {")
	p.inner(func() { p.stmts(body) })
	p.line("}")
}
