package ast

import (
	"math"
	"strings"

	"trickle/api"
)

const (
	digits    = "0123456789"
	letters   = "ABCDEFGHIJKLMNOPQRSTUVWXYZ_abcdefghijklmnopqrstuvwxyz" // an identifier begins with one of them
	maxName   = 32                                                      // bytes of an identifier
	maxNumber = math.MaxInt16                                           // the greatest number in a source text
)

// keywords are no identifiers.
var keywords = [...]string{
	"channel", "checkpoint", "const", "deadline", "else", "emit", "every", "fresh", "if", "let", "on", "output",
	"read", "repeat", "return", "send", "sensor", "task", "together", "var", "while", "within",
}

// exprShape is what well-formed expressions of one kind have in common.
type exprShape struct {
	named   bool  // Name is an identifier
	value   int16 // the greatest Value
	firstOp int   // firstOp and lastOp are 0 if there is no operator
	lastOp  int
	args    int
}

// exprShapes is indexed by Kind.
var exprShapes = [...]exprShape{
	api.ExprInt:    {value: maxNumber},
	api.ExprName:   {named: true},
	api.ExprIndex:  {named: true, args: 1},
	api.ExprRead:   {named: true},
	api.ExprUnary:  {firstOp: api.OpNeg, lastOp: api.OpNot, args: 1},
	api.ExprBinary: {firstOp: api.OpAdd, lastOp: api.OpOr, args: 2},
}

// stmtShape is what well-formed statements of one kind have in common.
type stmtShape struct {
	named   bool // Name is an identifier
	n       int  // the greatest N
	args    int
	hasBody bool
	hasElse bool
}

// stmtShapes is indexed by Kind.
var stmtShapes = [...]stmtShape{
	api.StmtLet:      {named: true, args: 1},
	api.StmtAssign:   {named: true, args: 1},
	api.StmtAssignAt: {named: true, args: 2},
	api.StmtIf:       {args: 1, hasBody: true, hasElse: true},
	api.StmtRepeat:   {n: maxNumber, hasBody: true},
	api.StmtWhile:    {args: 1, hasBody: true},
	api.StmtSend:     {named: true, args: 1},
	api.StmtEmit:     {args: 1},
	api.StmtOutput:   {named: true, args: 1},
	api.StmtFresh:    {n: maxNumber, hasBody: true},
	api.StmtTogether: {n: maxNumber, hasBody: true},
	api.StmtBoundary: {},
	api.StmtReturn:   {},
}

// WellFormed reports whether all parts of a program have the names, numbers, operators and parts of their kinds,
// and nothing else.
func WellFormed(p api.Program) bool {
	return every(p.Consts, formedConst) && every(p.Globals, formedGlobal) && every(p.Sensors, isIdentifier) &&
		every(p.Outputs, isIdentifier) && every(p.Channels, formedChannel) && every(p.Tasks, formedTask)
}

// every reports whether all elements of a list are well-formed.
func every[T any](l []T, formed func(T) bool) bool {
	for _, x := range l {
		if !formed(x) {
			return false
		}
	}
	return true
}

func formedConst(c api.Const) bool { return isIdentifier(c.Name) && isSigned(c.Value) }

func formedGlobal(g api.Global) bool {
	return isIdentifier(g.Name) && isNumber(g.Len) && isSigned(g.Init) && (g.Len == 0 || g.Init == 0)
}

func formedChannel(c api.Channel) bool { return isIdentifier(c.Name) && isNumber(c.Cap) }

func formedTask(t api.Task) bool {
	return isIdentifier(t.Name) && formedTrigger(t) && isNumber(t.Deadline) && every(t.Body, formedStmt)
}

// formedTrigger reports whether a task is released either by the time or by messages.
func formedTrigger(t api.Task) bool {
	if t.Period == 0 {
		return isIdentifier(t.Channel) && isIdentifier(t.Param) && isNumber(t.Within)
	}
	return isNumber(t.Period) && t.Channel == "" && t.Param == "" && t.Within == 0
}

func formedStmt(s api.Stmt) bool {
	if s.Kind <= 0 || s.Kind >= len(stmtShapes) {
		return false
	}
	shape := stmtShapes[s.Kind]
	return formedName(s.Name, shape.named) && 0 <= s.N && s.N <= shape.n && len(s.Args) == shape.args &&
		(shape.hasBody || len(s.Body) == 0) && (shape.hasElse || len(s.Else) == 0) &&
		every(s.Args, formedExpr) && every(s.Body, formedStmt) && every(s.Else, formedStmt)
}

func formedExpr(x api.Expr) bool {
	if x.Kind <= 0 || x.Kind >= len(exprShapes) {
		return false
	}
	shape := exprShapes[x.Kind]
	return formedName(x.Name, shape.named) && 0 <= x.Value && x.Value <= shape.value &&
		shape.firstOp <= x.Op && x.Op <= shape.lastOp && len(x.Args) == shape.args && every(x.Args, formedExpr)
}

// formedName reports whether a name is an identifier, or, where there is none, empty.
func formedName(name string, named bool) bool {
	if !named {
		return name == ""
	}
	return isIdentifier(name)
}

// isSigned reports whether a value is a number with or without a minus sign.
func isSigned(value int16) bool { return value >= -maxNumber }

func isNumber(n int) bool { return 0 <= n && n <= maxNumber }

func isIdentifier(name string) bool {
	return name != "" && len(name) <= maxName && strings.IndexByte(digits, name[0]) < 0 &&
		strings.Trim(name, letters+digits) == "" && !isKeyword(name)
}

func isKeyword(name string) bool {
	for _, k := range keywords {
		if k == name {
			return true
		}
	}
	return false
}
