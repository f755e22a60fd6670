package ast

import (
	"strconv"
	"strings"

	"trickle/api"
)

const indentation = "    "

// printer is the text of the lines so far, and in how many pairs of braces the next line stands.
type printer struct {
	text  strings.Builder
	depth int
}

// Format returns the canonical source text of a program, or an empty string if it is not well-formed.
func Format(p api.Program) string {
	if !WellFormed(p) {
		return ""
	}
	var w printer
	for _, c := range p.Consts {
		w.line("const ", c.Name, " = ", strconv.Itoa(int(c.Value)), ";")
	}
	for _, g := range p.Globals {
		w.global(g)
	}
	for _, name := range p.Sensors {
		w.line("sensor ", name, ";")
	}
	for _, name := range p.Outputs {
		w.line("output ", name, ";")
	}
	for _, c := range p.Channels {
		w.line("channel ", c.Name, "[", strconv.Itoa(c.Cap), "];")
	}
	for _, t := range p.Tasks {
		w.line("task ", t.Name, trigger(t), option("deadline", t.Deadline), " {")
		w.body(t.Body)
		w.line("}")
	}
	return w.text.String()
}

// line adds a line that consists of some parts.
func (w *printer) line(parts ...string) {
	w.text.WriteString(strings.Repeat(indentation, w.depth))
	for _, part := range parts {
		w.text.WriteString(part)
	}
	w.text.WriteString("\n")
}

func (w *printer) global(g api.Global) {
	switch {
	case g.Len > 0:
		w.line("var ", g.Name, "[", strconv.Itoa(g.Len), "];")
	case g.Init != 0:
		w.line("var ", g.Name, " = ", strconv.Itoa(int(g.Init)), ";")
	default:
		w.line("var ", g.Name, ";")
	}
}

// trigger returns by what a task is released, with a space ahead.
func trigger(t api.Task) string {
	if t.Period > 0 {
		return " every " + strconv.Itoa(t.Period)
	}
	return " on " + t.Channel + "(" + t.Param + ")" + option("within", t.Within)
}

// option returns a keyword and its number, each with a space ahead, or nothing if the number is 0.
func option(keyword string, n int) string {
	if n == 0 {
		return ""
	}
	return " " + keyword + " " + strconv.Itoa(n)
}

// body adds the lines of the statements in a pair of braces.
func (w *printer) body(l []api.Stmt) {
	w.depth++
	for _, s := range l {
		w.statement(s)
	}
	w.depth--
}

func (w *printer) statement(s api.Stmt) {
	switch s.Kind {
	case api.StmtLet:
		w.line("let ", s.Name, " = ", text(s.Args[0]), ";")
	case api.StmtAssign:
		w.line(s.Name, " = ", text(s.Args[0]), ";")
	case api.StmtAssignAt:
		w.line(s.Name, "[", text(s.Args[0]), "] = ", text(s.Args[1]), ";")
	case api.StmtIf:
		w.choice(s)
	case api.StmtRepeat:
		w.compound("repeat ", strconv.Itoa(s.N), s.Body)
	case api.StmtWhile:
		w.compound("while ", text(s.Args[0]), s.Body)
	case api.StmtSend:
		w.line("send ", s.Name, " ", text(s.Args[0]), ";")
	case api.StmtEmit:
		w.line("emit ", text(s.Args[0]), ";")
	case api.StmtOutput:
		w.line("output ", s.Name, " ", text(s.Args[0]), ";")
	case api.StmtFresh:
		w.compound("fresh ", strconv.Itoa(s.N), s.Body)
	case api.StmtTogether:
		w.compound("together ", strconv.Itoa(s.N), s.Body)
	case api.StmtBoundary:
		w.line("checkpoint;")
	case api.StmtReturn:
		w.line("return;")
	}
}

// compound adds the lines of a statement with one body.
func (w *printer) compound(keyword, operand string, body []api.Stmt) {
	w.line(keyword, operand, " {")
	w.body(body)
	w.line("}")
}

// choice adds the lines of an if statement and of the chain of if statements that its Else begins.
func (w *printer) choice(s api.Stmt) {
	w.line("if ", text(s.Args[0]), " {")
	w.body(s.Body)
	for len(s.Else) == 1 && s.Else[0].Kind == api.StmtIf {
		s = s.Else[0]
		w.line("} else if ", text(s.Args[0]), " {")
		w.body(s.Body)
	}
	if len(s.Else) > 0 {
		w.line("} else {")
		w.body(s.Else)
	}
	w.line("}")
}
