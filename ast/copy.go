package ast

import (
	"slices"

	"trickle/api"
)

// Strip returns a program without positions.
func Strip(p api.Program) api.Program {
	p = copyProgram(p)
	for i := range p.Consts {
		p.Consts[i].Pos = 0
	}
	for i := range p.Globals {
		p.Globals[i].Pos = 0
	}
	for i := range p.Channels {
		p.Channels[i].Pos = 0
	}
	for i := range p.Tasks {
		p.Tasks[i].Pos = 0
		stripStmts(p.Tasks[i].Body)
	}
	return p
}

// stripStmts sets the positions in some statements to 0.
func stripStmts(l []api.Stmt) {
	for i := range l {
		l[i].Pos = 0
		stripExprs(l[i].Args)
		stripStmts(l[i].Body)
		stripStmts(l[i].Else)
	}
}

// stripExprs sets the positions in some expressions to 0.
func stripExprs(l []api.Expr) {
	for i := range l {
		l[i].Pos = 0
		stripExprs(l[i].Args)
	}
}

// copyProgram returns a program in new memory.
func copyProgram(p api.Program) api.Program {
	tasks := slices.Clone(p.Tasks)
	for i := range tasks {
		tasks[i].Body = copyStmts(tasks[i].Body)
	}
	return api.Program{
		Consts:   slices.Clone(p.Consts),
		Globals:  slices.Clone(p.Globals),
		Sensors:  slices.Clone(p.Sensors),
		Outputs:  slices.Clone(p.Outputs),
		Channels: slices.Clone(p.Channels),
		Tasks:    tasks,
	}
}

// copyStmts returns some statements in new memory.
func copyStmts(l []api.Stmt) []api.Stmt {
	l = slices.Clone(l)
	for i := range l {
		l[i].Args = copyExprs(l[i].Args)
		l[i].Body = copyStmts(l[i].Body)
		l[i].Else = copyStmts(l[i].Else)
	}
	return l
}

// copyExprs returns some expressions in new memory.
func copyExprs(l []api.Expr) []api.Expr {
	l = slices.Clone(l)
	for i := range l {
		l[i].Args = copyExprs(l[i].Args)
	}
	return l
}
