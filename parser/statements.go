package parser

import "keyhole/api"

func (p *parser) statement() api.Stmt {
	switch {
	case p.accept("output"):
		return p.closed(api.Stmt{Verb: api.OutputStmt, Value: p.expression()})
	case p.accept("wait"):
		return p.closed(api.Stmt{Verb: api.WaitStmt, N: p.integer()})
	case p.accept("if"):
		return p.choice()
	case p.accept("while"):
		return p.while()
	case p.accept("for"):
		return p.rounds()
	case p.accept("settle"):
		return p.closed(api.Stmt{Verb: api.SettleStmt, Numbers: separated(p, p.integer)})
	}
	return p.assignment()
}

// closed takes the semicolon behind a statement, and returns the statement.
func (p *parser) closed(s api.Stmt) api.Stmt {
	p.expect(";")
	return s
}

// assignment takes a statement that begins with a place.
func (p *parser) assignment() api.Stmt {
	place := p.place()
	p.expect("=")
	switch {
	case p.accept("call"):
		return p.closed(api.Stmt{Verb: api.CallStmt, Place: place, Name: p.name(), Args: enclosed(p, p.expression)})
	case p.accept("release"):
		return p.closed(api.Stmt{Verb: api.ReleaseStmt, Place: place, Name: p.name()})
	}
	return p.closed(api.Stmt{Verb: api.SetStmt, Place: place, Value: p.expression()})
}

// block takes statements in braces.
func (p *parser) block() []api.Stmt {
	p.expect("{")
	return upTo(p, "}", p.statement)
}

// choice takes what follows the word if.
func (p *parser) choice() api.Stmt {
	s := api.Stmt{Verb: api.IfStmt, Value: p.expression(), Then: p.block()}
	if p.accept("else") {
		s.Else = p.block()
	}
	return s
}

// while takes what follows the word while.
func (p *parser) while() api.Stmt {
	s := api.Stmt{Verb: api.WhileStmt, Value: p.expression()}
	p.expect("limit")
	s.N = p.integer()
	s.Then = p.block()
	return s
}

// rounds takes what follows the word for.
func (p *parser) rounds() api.Stmt {
	s := api.Stmt{Verb: api.ForStmt, Name: p.name()}
	p.expect("=")
	s.Low = p.integer()
	p.expect("to")
	s.High = p.integer()
	s.Then = p.block()
	return s
}
