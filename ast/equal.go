package ast

import (
	"slices"

	"trickle/api"
)

// Equal reports whether two programs are equal apart from positions.
func Equal(a, b api.Program) bool {
	return slices.EqualFunc(a.Consts, b.Consts, equalConst) && slices.EqualFunc(a.Globals, b.Globals, equalGlobal) &&
		slices.Equal(a.Sensors, b.Sensors) && slices.Equal(a.Outputs, b.Outputs) &&
		slices.EqualFunc(a.Channels, b.Channels, equalChannel) && slices.EqualFunc(a.Tasks, b.Tasks, equalTask)
}

func equalConst(a, b api.Const) bool { return a.Name == b.Name && a.Value == b.Value }

func equalGlobal(a, b api.Global) bool { return a.Name == b.Name && a.Len == b.Len && a.Init == b.Init }

func equalChannel(a, b api.Channel) bool { return a.Name == b.Name && a.Cap == b.Cap }

func equalTask(a, b api.Task) bool {
	return a.Name == b.Name && a.Period == b.Period && a.Deadline == b.Deadline && a.Channel == b.Channel &&
		a.Param == b.Param && a.Within == b.Within && slices.EqualFunc(a.Body, b.Body, equalStmt)
}

func equalStmt(a, b api.Stmt) bool {
	return a.Kind == b.Kind && a.Name == b.Name && a.N == b.N && slices.EqualFunc(a.Args, b.Args, EqualExpr) &&
		slices.EqualFunc(a.Body, b.Body, equalStmt) && slices.EqualFunc(a.Else, b.Else, equalStmt)
}

// EqualExpr reports whether two expressions are equal apart from positions.
func EqualExpr(a, b api.Expr) bool {
	return a.Kind == b.Kind && a.Name == b.Name && a.Value == b.Value && a.Op == b.Op &&
		slices.EqualFunc(a.Args, b.Args, EqualExpr)
}
