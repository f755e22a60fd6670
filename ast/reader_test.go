package ast

import (
	"fmt"
	"regexp"
	"slices"
	"strconv"
	"strings"

	"trickle/api"
)

// reader reads source texts by the grammar of the language: the canonical text of a program must be that of no
// other program. It panics if a text does not match.
type reader struct{ tokens []string }

var tokenBytes = regexp.MustCompile(`[a-zA-Z0-9_]+|&&|\|\||[=!<>]=|[^ \n]`)

func newReader(text string) *reader { return &reader{tokenBytes.FindAllString(text, -1)} }

// next returns the next token, or an empty string.
func (r *reader) next() string {
	if len(r.tokens) == 0 {
		return ""
	}
	return r.tokens[0]
}

func (r *reader) take() string {
	token := r.next()
	r.tokens = r.tokens[1:]
	return token
}

// has takes a token if it is the next one.
func (r *reader) has(token string) bool {
	if r.next() != token {
		return false
	}
	r.take()
	return true
}

func (r *reader) want(tokens ...string) {
	for _, token := range tokens {
		if !r.has(token) {
			panic(fmt.Sprintf("%q is not %q", r.next(), token))
		}
	}
}

func (r *reader) name() string {
	if !isName(r.next()) {
		panic(fmt.Sprintf("%q is no name", r.next()))
	}
	return r.take()
}

func (r *reader) number() int {
	n, err := strconv.ParseUint(r.next(), 10, 15)
	if err != nil {
		panic(err)
	}
	r.take()
	return int(n)
}

func (r *reader) signed() int16 {
	if r.has("-") {
		return int16(-r.number())
	}
	return int16(r.number())
}

func (r *reader) option(keyword string) int {
	if r.has(keyword) {
		return r.number()
	}
	return 0
}

func (r *reader) program() api.Program {
	var p api.Program
	for len(r.tokens) > 0 {
		keyword := r.take()
		switch keyword {
		case "const":
			c := api.Const{Name: r.name()}
			r.want("=")
			c.Value = r.signed()
			p.Consts = append(p.Consts, c)
		case "var":
			g := api.Global{Name: r.name()}
			if r.has("[") {
				g.Len = r.number()
				r.want("]")
			} else if r.has("=") {
				g.Init = r.signed()
			}
			p.Globals = append(p.Globals, g)
		case "sensor":
			p.Sensors = append(p.Sensors, r.name())
		case "output":
			p.Outputs = append(p.Outputs, r.name())
		case "channel":
			c := api.Channel{Name: r.name()}
			r.want("[")
			c.Cap = r.number()
			r.want("]")
			p.Channels = append(p.Channels, c)
		case "task":
			p.Tasks = append(p.Tasks, r.task())
			continue
		default:
			panic(fmt.Sprintf("%q begins no declaration", keyword))
		}
		r.want(";")
	}
	return p
}

func (r *reader) task() api.Task {
	t := api.Task{Name: r.name()}
	if r.has("every") {
		t.Period = r.number()
	} else {
		r.want("on")
		t.Channel = r.name()
		r.want("(")
		t.Param = r.name()
		r.want(")")
		t.Within = r.option("within")
	}
	t.Deadline = r.option("deadline")
	t.Body = r.block()
	return t
}

func (r *reader) block() []api.Stmt {
	var l []api.Stmt
	r.want("{")
	for !r.has("}") {
		l = append(l, r.statement())
	}
	return l
}

func (r *reader) statement() api.Stmt {
	var s api.Stmt
	switch keyword := r.next(); keyword {
	case "if":
		return r.choice()
	case "repeat", "fresh", "together":
		r.take()
		s.Kind = map[string]int{"repeat": 5, "fresh": 10, "together": 11}[keyword]
		s.N = r.number()
		s.Body = r.block()
		return s
	case "while":
		r.take()
		s.Kind, s.Args = 6, []api.Expr{r.expr(1)}
		s.Body = r.block()
		return s
	case "let":
		r.take()
		s.Kind, s.Name = 1, r.name()
		r.want("=")
		s.Args = []api.Expr{r.expr(1)}
	case "send", "output":
		r.take()
		s.Kind = map[string]int{"send": 7, "output": 9}[keyword]
		s.Name = r.name()
		s.Args = []api.Expr{r.expr(1)}
	case "emit":
		r.take()
		s.Kind, s.Args = 8, []api.Expr{r.expr(1)}
	case "checkpoint", "return":
		r.take()
		s.Kind = map[string]int{"checkpoint": 12, "return": 13}[keyword]
	default:
		s.Kind, s.Name = 2, r.name()
		if r.has("[") {
			s.Kind, s.Args = 3, []api.Expr{r.expr(1)}
			r.want("]")
		}
		r.want("=")
		s.Args = append(s.Args, r.expr(1))
	}
	r.want(";")
	return s
}

func (r *reader) choice() api.Stmt {
	r.want("if")
	s := api.Stmt{Kind: 4, Args: []api.Expr{r.expr(1)}}
	s.Body = r.block()
	switch {
	case !r.has("else"):
	case r.next() == "if":
		s.Else = []api.Stmt{r.choice()}
	default:
		s.Else = r.block()
	}
	return s
}

// expr reads an expression whose operators, outside parentheses, have at least a level.
func (r *reader) expr(level int) api.Expr {
	if level == 6 {
		return r.operand()
	}
	x := r.expr(level + 1)
	for {
		op := slices.Index(opTexts[3:], r.next()) + 3
		if op < 3 || opLevels[op] != level {
			return x
		}
		r.take()
		x = binary(op, x, r.expr(level+1))
		if level == 3 {
			return x
		}
	}
}

func (r *reader) operand() api.Expr {
	switch {
	case r.has("-"):
		return unary(1, r.operand())
	case r.has("!"):
		return unary(2, r.operand())
	case r.has("("):
		x := r.expr(1)
		r.want(")")
		return x
	case r.has("read"):
		r.want("(")
		x := read(r.name())
		r.want(")")
		return x
	case strings.Contains("0123456789", r.next()[:1]):
		return num(int16(r.number()))
	}
	s := r.name()
	if r.has("[") {
		x := index(s, r.expr(1))
		r.want("]")
		return x
	}
	return name(s)
}

// readProgram and readExpr return the tree of a source text.
func readProgram(text string) api.Program { return newReader(text).program() }

func readExpr(text string) api.Expr {
	r := newReader(text)
	x := r.expr(1)
	if len(r.tokens) > 0 {
		panic(fmt.Sprintf("%q follows the expression", r.next()))
	}
	return x
}
