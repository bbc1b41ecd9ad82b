package parser

import "keyhole/api"

func (p *parser) program() api.Program {
	decls := upTo(p, "begin", p.declaration)
	return api.Program{Decls: decls, Body: upTo(p, "end", p.statement)}
}

func (p *parser) declaration() api.Decl {
	switch {
	case p.accept("type"):
		return p.definition()
	case p.accept("secret"):
		return p.input(api.SecretDecl)
	case p.accept("public"):
		return p.input(api.PublicDecl)
	case p.accept("random"):
		return p.input(api.RandomDecl)
	case p.next() == "var":
		return p.variable()
	case p.accept("hatch"):
		return p.hatch()
	case p.accept("func"):
		return p.function()
	}
	panic(p.fault())
}

// definition takes what follows the word type.
func (p *parser) definition() api.Decl {
	d := api.Decl{Kind: api.TypeDecl, Name: p.name()}
	p.expect("=")
	d.Type = p.kind()
	p.expect(";")
	return d
}

// typed takes a name and its type, and returns them as a declaration of the kind.
func (p *parser) typed(kind api.DeclKind) api.Decl {
	d := api.Decl{Kind: kind, Name: p.name()}
	p.expect(":")
	d.Type = p.kind()
	return d
}

// input takes what follows the word secret, public or random.
func (p *parser) input(kind api.DeclKind) api.Decl {
	d := p.typed(kind)
	p.expect(";")
	return d
}

func (p *parser) variable() api.Decl {
	p.expect("var")
	d := p.typed(api.VarDecl)
	if p.accept("=") {
		d.Init = p.value()
	}
	p.expect(";")
	return d
}

func (p *parser) value() int {
	switch {
	case p.accept("true"):
		return 1
	case p.accept("false"):
		return 0
	}
	return p.integer()
}

// hatch takes what follows the word hatch.
func (p *parser) hatch() api.Decl {
	d := p.typed(api.HatchDecl)
	p.expect("=")
	d.Value = p.expression()
	p.expect(";")
	return d
}

// function takes what follows the word func.
func (p *parser) function() api.Decl {
	d := api.Decl{Kind: api.FuncDecl, Name: p.name(), Params: enclosed(p, p.param)}
	p.expect(":")
	d.Type = p.kind()
	p.expect("{")
	for p.next() == "var" {
		d.Vars = append(d.Vars, p.variable())
	}
	d.Body = upTo(p, "return", p.statement)
	d.Value = p.expression()
	p.expect(";")
	p.expect("}")
	return d
}

func (p *parser) param() api.Decl {
	return p.typed(api.VarDecl)
}

// kind is the rule of types.
func (p *parser) kind() api.Type {
	switch {
	case p.accept("bool"):
		return api.Type{Kind: api.TypeBool}
	case p.accept("int"):
		return p.interval()
	case p.accept("array"):
		t := api.Type{Kind: api.TypeArray, Size: p.integer()}
		p.expect("of")
		t.Of = []api.Type{p.kind()}
		return t
	case p.accept("record"):
		return p.record()
	}
	return api.Type{Kind: api.TypeName, Name: p.name()}
}

// interval takes what follows the word int.
func (p *parser) interval() api.Type {
	p.expect("[")
	t := api.Type{Kind: api.TypeInt, Low: p.integer()}
	p.expect("..")
	t.High = p.integer()
	p.expect("]")
	return t
}

// record takes what follows the word record. Its components have the form of params.
func (p *parser) record() api.Type {
	p.expect("{")
	t := api.Type{Kind: api.TypeRecord}
	for _, component := range separated(p, p.param) {
		t.Names = append(t.Names, component.Name)
		t.Of = append(t.Of, component.Type)
	}
	p.expect("}")
	return t
}
