package parser

import (
	"fmt"
	"reflect"
	"regexp"
	"slices"
	"testing"

	"trickle/api"
	"trickle/lexer"
)

// grammar is the grammar of the chapter, as it stands there.
const grammar = `
    program   = { declaration }
    declaration = "const" id "=" signed ";" | "var" id [ "[" int1 "]" | "=" signed ] ";"
              | "sensor" id ";" | "output" id ";" | "channel" id "[" int "]" ";" | "task" id trigger block
    signed    = [ "-" ] int
    trigger   = ( "every" int1 | "on" id "(" id ")" [ "within" int ] ) [ "deadline" int ]
    block     = "{" { statement } "}"
    statement = "let" id "=" expr ";" | id "=" expr ";" | id "[" expr "]" "=" expr ";" | if
              | "repeat" int block | "while" expr block | "send" id expr ";" | "emit" expr ";"
              | "output" id expr ";" | "fresh" int block | "together" int block
              | "checkpoint" ";" | "return" ";"
    if        = "if" expr block [ "else" ( block | if ) ]
    expr      = and { "||" and }
    and       = comparison { "&&" comparison }
    comparison = sum [ ( "==" | "!=" | "<" | "<=" | ">" | ">=" ) sum ]
    sum       = product { ( "+" | "-" ) product }
    product   = unary { ( "*" | "/" | "%" ) unary }
    unary     = ( "-" | "!" ) unary | primary
    primary   = int | id [ "[" expr "]" ] | "read" "(" id ")" | "(" expr ")"
`

// symbol is a part of the grammar: the text or the class of a token, the name of a rule, or something made of parts.
type symbol struct {
	kind  string // "text", "name", "choice", "sequence", "option", "repetition"; "leave" and "end" in stacks only
	text  string
	parts []*symbol
}

// rules are the right sides of the grammar by their names.
var rules = readGrammar(grammar)

var grammarTokens = regexp.MustCompile(`"[^"]*"|[a-z0-9]+|[^ \n]`)

// grammarReader reads right sides of rules.
type grammarReader struct{ tokens []string }

func readGrammar(text string) map[string]*symbol {
	all := map[string]*symbol{}
	r := &grammarReader{grammarTokens.FindAllString(text, -1)}
	for len(r.tokens) > 0 {
		name := r.tokens[0]
		r.tokens = r.tokens[2:]
		all[name] = r.choice()
	}
	return all
}

func (r *grammarReader) next() string {
	if len(r.tokens) == 0 || len(r.tokens) > 1 && r.tokens[1] == "=" {
		return "" // the end of the rule
	}
	return r.tokens[0]
}

func (r *grammarReader) take() string {
	token := r.tokens[0]
	r.tokens = r.tokens[1:]
	return token
}

func (r *grammarReader) choice() *symbol {
	s := &symbol{kind: "choice", parts: []*symbol{r.sequence()}}
	for r.next() == "|" {
		r.take()
		s.parts = append(s.parts, r.sequence())
	}
	return s
}

func (r *grammarReader) sequence() *symbol {
	s := &symbol{kind: "sequence"}
	for {
		switch token := r.next(); token {
		case "", "|", ")", "]", "}":
			return s
		case "(", "[", "{":
			r.take()
			inner := r.choice()
			r.take()
			kind := map[string]string{"(": "choice", "[": "option", "{": "repetition"}[token]
			s.parts = append(s.parts, &symbol{kind: kind, parts: []*symbol{inner}})
		default:
			r.take()
			if token[0] == '"' {
				s.parts = append(s.parts, &symbol{kind: "text", text: token[1 : len(token)-1]})
			} else {
				s.parts = append(s.parts, &symbol{kind: "name", text: token})
			}
		}
	}
}

// matches reports whether a token is one of those that a symbol stands for.
func (s *symbol) matches(t lexer.Token) bool {
	switch {
	case s.kind == "end":
		return t.Kind == lexer.EOF
	case s.kind == "text":
		return t.Text == s.text && (t.Kind == lexer.Keyword || t.Kind == lexer.Punct)
	case s.text == "id":
		return t.Kind == lexer.Ident
	case s.text == "int":
		return t.Kind == lexer.Int
	}
	return s.text == "int1" && t.Kind == lexer.Int && t.Value >= 1
}

// derivation is one way in which the grammar produces the tokens so far: what is still expected, first things first,
// and what was done, last things first.
type derivation struct {
	ahead *ahead
	done  *done
}

type ahead struct {
	symbol *symbol
	next   *ahead
}

type done struct {
	enter, leave bool // of a rule; otherwise a token
	rule         string
	token        lexer.Token
	before       *done
}

// begin returns the derivations of no tokens.
func begin(rule string) []derivation {
	return []derivation{{ahead: &ahead{&symbol{kind: "name", text: rule}, &ahead{&symbol{kind: "end"}, nil}}}}
}

// after returns the derivations of the tokens so far and one more. If there are none, no token sequence that matches
// begins with these tokens: the grammar can complete whatever it has begun.
func after(l []derivation, t lexer.Token) []derivation {
	var all []derivation
	for _, d := range l {
		all = append(all, d.after(t)...)
	}
	return all
}

func (d derivation) after(t lexer.Token) []derivation {
	if d.ahead == nil {
		return nil
	}
	s, rest := d.ahead.symbol, d.ahead.next
	switch s.kind {
	case "leave":
		return derivation{rest, &done{leave: true, rule: s.text, before: d.done}}.after(t)
	case "sequence":
		for _, part := range slices.Backward(s.parts) {
			rest = &ahead{part, rest}
		}
		return derivation{rest, d.done}.after(t)
	case "choice":
		var all []derivation
		for _, part := range s.parts {
			all = append(all, derivation{&ahead{part, rest}, d.done}.after(t)...)
		}
		return all
	case "option":
		return append(derivation{rest, d.done}.after(t), derivation{&ahead{s.parts[0], rest}, d.done}.after(t)...)
	case "repetition":
		return append(derivation{rest, d.done}.after(t), derivation{&ahead{s.parts[0], d.ahead}, d.done}.after(t)...)
	}
	if rule := rules[s.text]; s.kind == "name" && rule != nil {
		rest = &ahead{rule, &ahead{&symbol{kind: "leave", text: s.text}, rest}}
		return derivation{rest, &done{enter: true, rule: s.text, before: d.done}}.after(t)
	}
	if !s.matches(t) {
		return nil
	}
	return []derivation{{rest, &done{token: t, before: d.done}}}
}

// node is a part of a text that matches a rule, or a token.
type node struct {
	rule  string
	token lexer.Token
	parts []node
}

// nodeOf returns the node of what was done, which must be all of a rule and the end.
func nodeOf(last *done) node {
	var events []*done
	for e := last.before; e != nil; e = e.before {
		events = append(events, e)
	}
	open := []node{{}}
	for _, e := range slices.Backward(events) {
		n := node{rule: e.rule, token: e.token}
		if e.enter {
			open = append(open, n)
			continue
		}
		if e.leave {
			n = open[len(open)-1]
			open = open[:len(open)-1]
		}
		outer := &open[len(open)-1]
		outer.parts = append(outer.parts, n)
	}
	return open[0].parts[0]
}

// match returns the node of a text, and false and the offset of the syntax error if it does not match the rule.
func match(rule, src string) (node, int, bool) {
	l := begin(rule)
	for _, t := range lexer.Scan(src) {
		l = after(l, t)
		if len(l) == 0 {
			return node{}, t.Pos, false
		}
	}
	if len(l) != 1 {
		panic(fmt.Sprintf("%d derivations of %q", len(l), src))
	}
	return nodeOf(l[0].done), 0, true
}

// diagnosticsOf is the definition of the diagnostics of a text that is to match a rule.
func diagnosticsOf(rule, src string) []api.Diagnostic {
	if len(src) > 16384 {
		return []api.Diagnostic{{Pos: 16384, Text: "source too long"}}
	}
	if l := lexer.Errors(lexer.Scan(src)); len(l) > 0 {
		return l
	}
	if _, pos, ok := match(rule, src); !ok {
		return []api.Diagnostic{{Pos: pos, Text: "syntax error"}}
	}
	return nil
}

// programOf and exprOf are the definitions of Parse and ParseExpr.
func programOf(src string) (api.Program, []api.Diagnostic) {
	if l := diagnosticsOf("program", src); l != nil {
		return api.Program{}, l
	}
	n, _, _ := match("program", src)
	return n.program(), nil
}

func exprOf(src string) (api.Expr, []api.Diagnostic) {
	if l := diagnosticsOf("expr", src); l != nil {
		return api.Expr{}, l
	}
	n, _, _ := match("expr", src)
	return n.expr(), nil
}

// The trees of nodes.

func (n node) text(part int) string { return n.parts[part].token.Text }
func (n node) value(part int) int   { return int(n.parts[part].token.Value) }

// first returns the first token of a node.
func (n node) first() lexer.Token {
	for n.rule != "" {
		n = n.parts[0]
	}
	return n.token
}

func (n node) program() api.Program {
	var p api.Program
	for _, d := range n.parts {
		name, pos := d.text(1), d.parts[1].token.Pos
		switch d.text(0) {
		case "const":
			p.Consts = append(p.Consts, api.Const{Name: name, Value: d.parts[3].signed(), Pos: pos})
		case "var":
			p.Globals = append(p.Globals, d.global(api.Global{Name: name, Pos: pos}))
		case "sensor":
			p.Sensors = append(p.Sensors, name)
		case "output":
			p.Outputs = append(p.Outputs, name)
		case "channel":
			p.Channels = append(p.Channels, api.Channel{Name: name, Cap: d.value(3), Pos: pos})
		case "task":
			t := d.parts[2].trigger(api.Task{Name: name, Pos: pos})
			t.Body = d.parts[3].block()
			p.Tasks = append(p.Tasks, t)
		}
	}
	return p
}

func (n node) signed() int16 {
	if n.text(0) == "-" {
		return int16(-n.value(1))
	}
	return int16(n.value(0))
}

func (n node) global(g api.Global) api.Global {
	switch n.text(2) {
	case "[":
		g.Len = n.value(3)
	case "=":
		g.Init = n.parts[3].signed()
	}
	return g
}

func (n node) trigger(t api.Task) api.Task {
	for i := range n.parts {
		switch n.text(i) {
		case "every":
			t.Period = n.value(i + 1)
		case "on":
			t.Channel, t.Param = n.text(i+1), n.text(i+3)
		case "within":
			t.Within = n.value(i + 1)
		case "deadline":
			t.Deadline = n.value(i + 1)
		}
	}
	return t
}

func (n node) block() []api.Stmt {
	var l []api.Stmt
	for _, s := range n.parts[1 : len(n.parts)-1] {
		l = append(l, s.stmt())
	}
	return l
}

var stmtKinds = map[string]int{
	"let": api.StmtLet, "if": api.StmtIf, "repeat": api.StmtRepeat, "while": api.StmtWhile, "send": api.StmtSend,
	"emit": api.StmtEmit, "output": api.StmtOutput, "fresh": api.StmtFresh, "together": api.StmtTogether,
	"checkpoint": api.StmtBoundary, "return": api.StmtReturn,
}

func (n node) stmt() api.Stmt {
	if n.parts[0].rule == "if" {
		return n.parts[0].choice()
	}
	s := api.Stmt{Kind: stmtKinds[n.text(0)], Pos: n.first().Pos}
	switch s.Kind {
	case 0:
		s.Kind, s.Name = api.StmtAssign, n.text(0)
		if n.text(1) == "[" {
			s.Kind = api.StmtAssignAt
		}
	case api.StmtLet, api.StmtSend, api.StmtOutput:
		s.Name = n.text(1)
	case api.StmtRepeat, api.StmtFresh, api.StmtTogether:
		s.N = n.value(1)
	}
	for _, part := range n.parts {
		switch part.rule {
		case "expr":
			s.Args = append(s.Args, part.expr())
		case "block":
			s.Body = part.block()
		}
	}
	return s
}

func (n node) choice() api.Stmt {
	s := api.Stmt{Kind: api.StmtIf, Args: []api.Expr{n.parts[1].expr()}, Body: n.parts[2].block(), Pos: n.first().Pos}
	if len(n.parts) < 4 {
		return s
	}
	if other := n.parts[4]; other.rule == "if" {
		s.Else = []api.Stmt{other.choice()}
	} else {
		s.Else = other.block()
	}
	return s
}

// opTexts are the texts of the operators from OpNeg to OpOr, opLevels the precedences of the binary ones.
var (
	opTexts  = []string{"", "-", "!", "+", "-", "*", "/", "%", "==", "!=", "<", "<=", ">", ">=", "&&", "||"}
	opLevels = []int{0, 0, 0, 4, 4, 5, 5, 5, 3, 3, 3, 3, 3, 3, 2, 1}
)

func (n node) expr() api.Expr {
	first := n.first()
	switch {
	case n.rule == "unary" && len(n.parts) == 2:
		op := slices.Index(opTexts, first.Text)
		return api.Expr{Kind: api.ExprUnary, Op: op, Args: []api.Expr{n.parts[1].expr()}, Pos: first.Pos}
	case n.rule != "primary":
		x := n.parts[0].expr()
		for i := 1; i < len(n.parts); i += 2 {
			op := 3 + slices.Index(opTexts[3:], n.text(i))
			x = api.Expr{Kind: api.ExprBinary, Op: op, Args: []api.Expr{x, n.parts[i+1].expr()}, Pos: n.parts[i].token.Pos}
		}
		return x
	case first.Kind == lexer.Int:
		return api.Expr{Kind: api.ExprInt, Value: first.Value, Pos: first.Pos}
	case first.Text == "read":
		return api.Expr{Kind: api.ExprRead, Name: n.text(2), Pos: first.Pos}
	case first.Text == "(":
		return n.parts[1].expr()
	case len(n.parts) == 1:
		return api.Expr{Kind: api.ExprName, Name: first.Text, Pos: first.Pos}
	}
	return api.Expr{Kind: api.ExprIndex, Name: first.Text, Args: []api.Expr{n.parts[2].expr()}, Pos: first.Pos}
}

// same reports whether two values of the same type are equal, with nil and empty slices equal.
func same[T any](a, b T) bool { return sameValue(reflect.ValueOf(a), reflect.ValueOf(b)) }

func sameValue(a, b reflect.Value) bool {
	switch a.Kind() {
	case reflect.Struct:
		for i := range a.NumField() {
			if !sameValue(a.Field(i), b.Field(i)) {
				return false
			}
		}
		return true
	case reflect.Slice:
		for i := range min(a.Len(), b.Len()) {
			if !sameValue(a.Index(i), b.Index(i)) {
				return false
			}
		}
		return a.Len() == b.Len()
	}
	return a.Equal(b)
}

// checkParse and checkExpr compare a function with its definition, and return the diagnostics.
func checkParse(t *testing.T, src string) []api.Diagnostic {
	t.Helper()
	p, l := Parse(src)
	want, diagnostics := programOf(src)
	if !same(p, want) || !same(l, diagnostics) {
		t.Fatalf("Parse(%q) = %+v, %v, not %+v, %v", src, p, l, want, diagnostics)
	}
	return l
}

func checkExpr(t *testing.T, src string) []api.Diagnostic {
	t.Helper()
	x, l := ParseExpr(src)
	want, diagnostics := exprOf(src)
	if !same(x, want) || !same(l, diagnostics) {
		t.Fatalf("ParseExpr(%q) = %+v, %v, not %+v, %v", src, x, l, want, diagnostics)
	}
	return l
}
