package ast

import (
	"strconv"
	"strings"

	"trickle/api"
)

// Levels of precedence.
const (
	levelOr = 1 + iota
	levelAnd
	levelComparison
	levelSum
	levelProduct
	levelUnary
	levelPrimary
)

// operator is how an operator is printed.
type operator struct {
	text  string
	level int
}

// operators is indexed by Op.
var operators = [...]operator{
	api.OpNeg: {"-", levelUnary},
	api.OpNot: {"!", levelUnary},
	api.OpAdd: {"+", levelSum},
	api.OpSub: {"-", levelSum},
	api.OpMul: {"*", levelProduct},
	api.OpDiv: {"/", levelProduct},
	api.OpMod: {"%", levelProduct},
	api.OpEq:  {"==", levelComparison},
	api.OpNe:  {"!=", levelComparison},
	api.OpLt:  {"<", levelComparison},
	api.OpLe:  {"<=", levelComparison},
	api.OpGt:  {">", levelComparison},
	api.OpGe:  {">=", levelComparison},
	api.OpAnd: {"&&", levelAnd},
	api.OpOr:  {"||", levelOr},
}

// Expr returns the canonical source text of an expression, or an empty string if it is not well-formed.
func Expr(x api.Expr) string {
	if !formedExpr(x) {
		return ""
	}
	return text(x)
}

// text returns the canonical source text of a well-formed expression.
func text(x api.Expr) string {
	var b strings.Builder
	writeExpr(&b, x)
	return b.String()
}

func writeExpr(b *strings.Builder, x api.Expr) {
	switch x.Kind {
	case api.ExprInt:
		b.WriteString(strconv.Itoa(int(x.Value)))
	case api.ExprName:
		b.WriteString(x.Name)
	case api.ExprIndex:
		b.WriteString(x.Name + "[")
		writeExpr(b, x.Args[0])
		b.WriteString("]")
	case api.ExprRead:
		b.WriteString("read(" + x.Name + ")")
	case api.ExprUnary:
		o := operators[x.Op]
		b.WriteString(o.text)
		writeOperand(b, x.Args[0], o.level)
	case api.ExprBinary:
		o := operators[x.Op]
		writeOperand(b, x.Args[0], o.leastLeft())
		b.WriteString(" " + o.text + " ")
		writeOperand(b, x.Args[1], o.level+1)
	}
}

// leastLeft returns the least level of a left operand without parentheses. Comparisons are not associative.
func (o operator) leastLeft() int {
	if o.level == levelComparison {
		return o.level + 1
	}
	return o.level
}

// writeOperand writes an operand, in parentheses if its level is less than the least one.
func writeOperand(b *strings.Builder, x api.Expr, least int) {
	if level(x) >= least {
		writeExpr(b, x)
		return
	}
	b.WriteString("(")
	writeExpr(b, x)
	b.WriteString(")")
}

func level(x api.Expr) int {
	if x.Kind == api.ExprUnary || x.Kind == api.ExprBinary {
		return operators[x.Op].level
	}
	return levelPrimary
}
