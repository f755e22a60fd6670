package parser

import (
	"trickle/api"
	"trickle/lexer"
)

// Precedences of binary operators, from the weakest to the strongest.
const (
	precOr = 1 + iota
	precAnd
	precComparison
	precSum
	precProduct
)

// operator is how a binary operator is written.
type operator struct {
	text       string
	precedence int
}

// operators is indexed by Op.
var operators = [...]operator{
	api.OpAdd: {"+", precSum},
	api.OpSub: {"-", precSum},
	api.OpMul: {"*", precProduct},
	api.OpDiv: {"/", precProduct},
	api.OpMod: {"%", precProduct},
	api.OpEq:  {"==", precComparison},
	api.OpNe:  {"!=", precComparison},
	api.OpLt:  {"<", precComparison},
	api.OpLe:  {"<=", precComparison},
	api.OpGt:  {">", precComparison},
	api.OpGe:  {">=", precComparison},
	api.OpAnd: {"&&", precAnd},
	api.OpOr:  {"||", precOr},
}

// Precedence returns the binding strength of a binary operator; 0 for any other number.
func Precedence(op int) int {
	if op < 0 || op >= len(operators) {
		return 0
	}
	return operators[op].precedence
}

// Operator returns the operator of a token text as a binary operator, and false if there is none.
func Operator(text string) (int, bool) {
	for op, o := range operators {
		// The rows without an operator have an empty text.
		if o.text == text && o.precedence > 0 {
			return op, true
		}
	}
	return 0, false
}

func (p *parser) expr() api.Expr { return p.operation(precOr) }

// operation takes operands that are joined by operators of one precedence.
func (p *parser) operation(precedence int) api.Expr {
	if precedence > precProduct {
		return p.unary()
	}
	x := p.operation(precedence + 1)
	for {
		op, _ := Operator(p.rest[0].Text)
		if Precedence(op) != precedence {
			return x
		}
		pos := p.take().Pos
		x = api.Expr{Kind: api.ExprBinary, Op: op, Args: []api.Expr{x, p.operation(precedence + 1)}, Pos: pos}
		if precedence == precComparison {
			return x
		}
	}
}

func (p *parser) unary() api.Expr {
	x := api.Expr{Kind: api.ExprUnary, Pos: p.rest[0].Pos}
	switch {
	case p.accept("-"):
		x.Op = api.OpNeg
	case p.accept("!"):
		x.Op = api.OpNot
	default:
		return p.primary()
	}
	x.Args = []api.Expr{p.unary()}
	return x
}

func (p *parser) primary() api.Expr {
	x := api.Expr{Pos: p.rest[0].Pos}
	switch {
	case p.is(lexer.Int):
		x.Kind = api.ExprInt
		x.Value = p.number(0)
	case p.accept("read"):
		x.Kind = api.ExprRead
		p.expect("(")
		x.Name = p.name()
		p.expect(")")
	case p.accept("("):
		x = p.expr()
		p.expect(")")
	default:
		p.variableUse(&x)
	}
	return x
}

// variableUse takes the name of a variable or of a constant, or an element.
func (p *parser) variableUse(x *api.Expr) {
	x.Kind = api.ExprName
	x.Name = p.name()
	if p.accept("[") {
		x.Kind = api.ExprIndex
		x.Args = []api.Expr{p.expr()}
		p.expect("]")
	}
}
