package parser

import (
	"trickle/api"
	"trickle/lexer"
)

func (p *parser) block() []api.Stmt {
	var l []api.Stmt
	p.expect("{")
	for {
		s, ok := p.statement()
		if !ok {
			break
		}
		l = append(l, s)
	}
	p.expect("}")
	return l
}

// statement takes a statement, and returns false if the next token does not begin one.
func (p *parser) statement() (api.Stmt, bool) {
	s := api.Stmt{Pos: p.rest[0].Pos}
	switch {
	case p.is(lexer.Ident):
		p.assignment(&s)
	case p.accept("let"):
		s.Kind = api.StmtLet
		s.Name = p.name()
		p.assigned(&s)
	case p.accept("if"):
		p.choice(&s)
	case p.accept("repeat"):
		p.counted(&s, api.StmtRepeat)
	case p.accept("while"):
		s.Kind = api.StmtWhile
		s.Args = []api.Expr{p.expr()}
		s.Body = p.block()
	case p.accept("send"):
		p.addressed(&s, api.StmtSend)
	case p.accept("emit"):
		s.Kind = api.StmtEmit
		p.last(&s)
	case p.accept("output"):
		p.addressed(&s, api.StmtOutput)
	case p.accept("fresh"):
		p.counted(&s, api.StmtFresh)
	case p.accept("together"):
		p.counted(&s, api.StmtTogether)
	case p.accept("checkpoint"):
		s.Kind = api.StmtBoundary
		p.expect(";")
	case p.accept("return"):
		s.Kind = api.StmtReturn
		p.expect(";")
	default:
		return api.Stmt{}, false
	}
	return s, true
}

// assignment takes an assignment to a variable or to an element.
func (p *parser) assignment(s *api.Stmt) {
	s.Kind = api.StmtAssign
	s.Name = p.name()
	if p.accept("[") {
		s.Kind = api.StmtAssignAt
		s.Args = []api.Expr{p.expr()}
		p.expect("]")
	}
	p.assigned(s)
}

// assigned takes the value of an assignment, with the mark in front of it.
func (p *parser) assigned(s *api.Stmt) {
	p.expect("=")
	p.last(s)
}

// last takes the argument that ends a statement.
func (p *parser) last(s *api.Stmt) {
	s.Args = append(s.Args, p.expr())
	p.expect(";")
}

// addressed takes the channel or the port of a statement and the value for it.
func (p *parser) addressed(s *api.Stmt, kind int) {
	s.Kind = kind
	s.Name = p.name()
	p.last(s)
}

// counted takes the number of a statement and its body.
func (p *parser) counted(s *api.Stmt, kind int) {
	s.Kind = kind
	s.N = int(p.number(0))
	s.Body = p.block()
}

// choice takes what follows the keyword of an if statement.
func (p *parser) choice(s *api.Stmt) {
	s.Kind = api.StmtIf
	s.Args = []api.Expr{p.expr()}
	s.Body = p.block()
	if !p.accept("else") {
		return
	}
	next := api.Stmt{Pos: p.rest[0].Pos}
	if p.accept("if") {
		p.choice(&next)
		s.Else = []api.Stmt{next}
		return
	}
	s.Else = p.block()
}
