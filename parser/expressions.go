package parser

import (
	"slices"

	"keyhole/api"
)

// node returns the expression with an operator and its kids.
func node(op api.Op, kids ...api.Expr) api.Expr {
	return api.Expr{Op: op, Kids: kids}
}

func (p *parser) expression() api.Expr {
	condition := p.or()
	if !p.accept("?") {
		return condition
	}
	yes := p.expression()
	p.expect(":")
	no := p.expression()
	return node(api.OpCond, condition, yes, no)
}

func (p *parser) or() api.Expr {
	return p.leftward(p.and, "||")
}

func (p *parser) and() api.Expr {
	return p.leftward(p.comparison, "&&")
}

func (p *parser) comparison() api.Expr {
	left := p.sum()
	switch p.next() {
	case "==", "!=", "<", "<=", ">", ">=":
		op := operator(p.take())
		return node(op, left, p.sum())
	}
	return left
}

func (p *parser) sum() api.Expr {
	return p.leftward(p.product, "+", "-")
}

func (p *parser) product() api.Expr {
	return p.leftward(p.unary, "*", "/", "%")
}

// leftward returns what the rule finds, once and again behind each of the signs, grouped to the left.
func (p *parser) leftward(rule func() api.Expr, signs ...string) api.Expr {
	left := rule()
	for slices.Contains(signs, p.next()) {
		op := operator(p.take())
		left = node(op, left, rule())
	}
	return left
}

// operator returns the operator that a sign between two operands stands for.
func operator(sign string) api.Op {
	switch sign {
	case "||":
		return api.OpOr
	case "&&":
		return api.OpAnd
	case "==":
		return api.OpEq
	case "!=":
		return api.OpNe
	case "<":
		return api.OpLt
	case "<=":
		return api.OpLe
	case ">":
		return api.OpGt
	case ">=":
		return api.OpGe
	case "+":
		return api.OpAdd
	case "-":
		return api.OpSub
	case "*":
		return api.OpMul
	case "/":
		return api.OpDiv
	}
	return api.OpMod
}

func (p *parser) unary() api.Expr {
	switch {
	case p.accept("-"):
		return node(api.OpNeg, p.unary())
	case p.accept("!"):
		return node(api.OpNot, p.unary())
	}
	return p.primary()
}

func (p *parser) primary() api.Expr {
	switch {
	case p.sees(api.TokenInt):
		return api.Expr{Op: api.OpLit, N: p.digits()}
	case p.accept("true"):
		return node(api.OpTrue)
	case p.accept("false"):
		return node(api.OpFalse)
	case p.accept("min"):
		return p.extreme(api.OpMin)
	case p.accept("max"):
		return p.extreme(api.OpMax)
	case p.accept("("):
		within := p.expression()
		p.expect(")")
		return within
	}
	return p.place()
}

// extreme takes what follows the word min or max.
func (p *parser) extreme(op api.Op) api.Expr {
	p.expect("(")
	left := p.expression()
	p.expect(",")
	right := p.expression()
	p.expect(")")
	return node(op, left, right)
}

func (p *parser) place() api.Expr {
	place := api.Expr{Op: api.OpName, Name: p.name()}
	for {
		switch {
		case p.accept("."):
			place = api.Expr{Op: api.OpField, Name: p.name(), Kids: []api.Expr{place}}
		case p.accept("["):
			place = node(api.OpIndex, place, p.expression())
			p.expect("]")
		default:
			return place
		}
	}
}
