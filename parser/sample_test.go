package parser

import (
	"fmt"
	"slices"
	"strings"

	"trickle/api"
	"trickle/lexer"
)

const keywords = "channel checkpoint const deadline else emit every fresh if let on output read repeat return send sensor task together var while within"

const marks = "! != % && ( ) * + , - / ; < <= = == > >= [ ] { || }"

// vocabulary has a text for each kind of token: all keywords and marks, identifiers, and the integers at the limits.
func vocabulary() []string {
	return append(strings.Fields(keywords+" "+marks), "id", "iff", "0", "1", "32767")
}

// show writes an expression with all its parentheses and, behind each @, its position.
func show(x api.Expr) string {
	var s string
	switch x.Kind {
	case api.ExprInt:
		s = fmt.Sprint(x.Value)
	case api.ExprName:
		s = x.Name
	case api.ExprIndex:
		s = x.Name + "[" + show(x.Args[0]) + "]"
	case api.ExprRead:
		s = "read(" + x.Name + ")"
	case api.ExprUnary:
		s = "(" + opTexts[x.Op] + show(x.Args[0]) + ")"
	case api.ExprBinary:
		s = "(" + show(x.Args[0]) + " " + opTexts[x.Op] + " " + show(x.Args[1]) + ")"
	}
	return fmt.Sprint(s, "@", x.Pos)
}

// bare removes the positions of a text that show has written.
func bare(text string) string {
	parts := strings.Split(text, "@")
	for i := range parts[1:] {
		parts[i+1] = strings.TrimLeft(parts[i+1], "0123456789")
	}
	return strings.Join(parts, "")
}

// Short ways to write trees, with positions.

func num(n int16, pos int) api.Expr { return api.Expr{Kind: api.ExprInt, Value: n, Pos: pos} }
func name(s string, pos int) api.Expr {
	return api.Expr{Kind: api.ExprName, Name: s, Pos: pos}
}
func binary(op int, a, b api.Expr, pos int) api.Expr {
	return api.Expr{Kind: api.ExprBinary, Op: op, Args: []api.Expr{a, b}, Pos: pos}
}
func exprs(l ...api.Expr) []api.Expr { return l }
func stmts(l ...api.Stmt) []api.Stmt { return l }

// documentText is the program of the document's overview.
const documentText = `const LIMIT = 30;
sensor temp;
output led;
var count;
var hist[8];
channel hot[4];
task sample every 100 deadline 50 {
    fresh 40 {
        let t = read(temp);
        if t > LIMIT {
            send hot t;
        }
    }
    count = count + 1;
    hist[count % 8] = count;
}
task report on hot(t) within 500 deadline 200 {
    emit t * 2;
    output led 1;
}
`

// document is the tree of documentText.
func document() api.Program {
	at := func(text string) int {
		pos := strings.Index(documentText, text)
		if pos < 0 || strings.Count(documentText, text) > 1 {
			panic(text)
		}
		return pos
	}
	return api.Program{
		Consts:   []api.Const{{Name: "LIMIT", Value: 30, Pos: 6}},
		Globals:  []api.Global{{Name: "count", Pos: 47}, {Name: "hist", Len: 8, Pos: 58}},
		Sensors:  []string{"temp"},
		Outputs:  []string{"led"},
		Channels: []api.Channel{{Name: "hot", Cap: 4, Pos: at("hot[4]")}},
		Tasks: []api.Task{
			{Name: "sample", Period: 100, Deadline: 50, Pos: at("sample"), Body: stmts(
				api.Stmt{Kind: api.StmtFresh, N: 40, Pos: at("fresh"), Body: stmts(
					api.Stmt{Kind: api.StmtLet, Name: "t", Pos: at("let"), Args: exprs(
						api.Expr{Kind: api.ExprRead, Name: "temp", Pos: at("read(temp)")})},
					api.Stmt{Kind: api.StmtIf, Pos: at("if"), Args: exprs(
						binary(api.OpGt, name("t", at("t > LIMIT")), name("LIMIT", at("LIMIT {")), at("> LIMIT"))),
						Body: stmts(api.Stmt{Kind: api.StmtSend, Name: "hot", Pos: at("send"), Args: exprs(name("t", at("hot t;")+4))})},
				)},
				api.Stmt{Kind: api.StmtAssign, Name: "count", Pos: at("count = count + 1"), Args: exprs(
					binary(api.OpAdd, name("count", at("count + 1")), num(1, at("+ 1;")+2), at("+ 1;")))},
				api.Stmt{Kind: api.StmtAssignAt, Name: "hist", Pos: at("hist[count"), Args: exprs(
					binary(api.OpMod, name("count", at("count % 8")), num(8, at("8] = count")), at("% 8")),
					name("count", at("= count;")+2))},
			)},
			{Name: "report", Channel: "hot", Param: "t", Within: 500, Deadline: 200, Pos: at("report"), Body: stmts(
				api.Stmt{Kind: api.StmtEmit, Pos: at("emit"), Args: exprs(
					binary(api.OpMul, name("t", at("t * 2")), num(2, at("2;")), at("* 2")))},
				api.Stmt{Kind: api.StmtOutput, Name: "led", Pos: at("output led 1"), Args: exprs(num(1, at("1;\n}\n")))},
			)},
		},
	}
}

// sentences are programs of up to a few dozen tokens which together use everything in the grammar.
func sentences() []string {
	return []string{
		"const a = 1; const b = -2; const c = 0; var d; var e = 3; var f = -4; var g[5]; sensor h; output i; channel j[0]; channel k[6];",
		"task a every 1 { } task b every 2 deadline 0 { return; } task c on d(e) { checkpoint; } task f on g(h) within 3 { }",
		"task i on j(k) deadline 4 { } task l on m(n) within 0 deadline 5 { emit 6; } var z;",
		"task t every 9 { let a = 1; b = a; c[a] = b; send d a; output e -1; emit !f; checkpoint; return; repeat 0 { } }",
		"task t every 9 { repeat 2 { fresh 3 { together 4 { while a { if b { let c = d; } } } } } }",
		"task t every 9 { if a { } else { } if b { emit 1; } else if c { emit 2; } else if d { } else { emit 3; } }",
		"task t every 9 { if a { if b { } else { emit 1; } } else if c { while d { } } else if e { } } output p;",
		"task t every 9 { emit a || b && c == d + e * -f - !g / 5 % h[i] && (j < k) <= read(l); }",
		"task t every 9 { a[b[c[1]]] = ((2)) > (3 >= 4); }",
		"task t every 9 { a[-b] = -(-c) + (((d)) * (e + f)) && !read(g); while (h) < i { } }",
	}
}

// exprSentences are expressions like that.
func exprSentences() []string {
	return []string{
		"1", "a", "-a", "(a)", "read(a)", "a[b]", "a[b[read(c)] + 1]",
		"a + b - c * d / e % f", "-a + !b * -(-c - !!d)", "a || b && c || d && (e || f)",
		"a == b && c != d || e < f && g <= h || i > j && (k >= l) == m",
		"(a < b) < (c < d) && (((1 + 2)) * (3)) % a[(4)]",
	}
}

// generator makes numbers that follow no simple rule. Its value is never 0.
type generator uint64

// below returns a number from 0 to n-1.
func (g *generator) below(n int) int {
	*g ^= *g << 13
	*g ^= *g >> 7
	*g ^= *g << 17
	return int((uint64(*g) >> 20) % uint64(n))
}

// pick returns one of some values.
func pick[T any](g *generator, l []T) T { return l[g.below(len(l))] }

// name returns an identifier, often one next to a keyword.
func (g *generator) name() string {
	return pick(g, []string{"a", "b", "x1", "_", "Y", strings.Repeat("n", 32), pick(g, strings.Fields(keywords)) + "s"})
}

// upTo returns a number from 0 to 32767, often a small one or the greatest one.
func (g *generator) upTo() int { return min(g.below(1<<g.below(17)), 32767) }

// signed returns a number from -32767 to 32767.
func (g *generator) signed() int16 { return int16(g.upTo() * (1 - 2*g.below(2))) }

// expr returns a well-formed expression of up to so many levels, without positions.
func (g *generator) expr(levels int) api.Expr {
	x := api.Expr{Kind: pick(g, []int{api.ExprInt, api.ExprName, api.ExprRead})}
	if levels > 1 {
		x.Kind = pick(g, []int{api.ExprInt, api.ExprName, api.ExprIndex, api.ExprRead, api.ExprUnary, api.ExprUnary, api.ExprBinary, api.ExprBinary, api.ExprBinary})
	}
	switch x.Kind {
	case api.ExprInt:
		x.Value = int16(g.upTo())
	case api.ExprName, api.ExprRead:
		x.Name = g.name()
	case api.ExprIndex:
		x.Name = g.name()
		x.Args = g.exprs(1, levels-1)
	case api.ExprUnary:
		x.Op = 1 + g.below(2)
		x.Args = g.exprs(1, levels-1)
	case api.ExprBinary:
		x.Op = 3 + g.below(13)
		x.Args = g.exprs(2, levels-1)
	}
	return x
}

func (g *generator) exprs(n, levels int) []api.Expr {
	var l []api.Expr
	for range n {
		l = append(l, g.expr(levels))
	}
	return l
}

// stmts returns up to three well-formed statements of up to so many levels.
func (g *generator) stmts(levels int) []api.Stmt {
	var l []api.Stmt
	if levels > 0 {
		for range pick(g, []int{0, 1, 1, 1, 2, 3}) {
			l = append(l, g.stmt(levels))
		}
	}
	return l
}

func (g *generator) stmt(levels int) api.Stmt {
	s := api.Stmt{Kind: 1 + g.below(13)}
	if g.below(3) == 0 {
		s.Kind = api.StmtIf
	}
	switch s.Kind {
	case api.StmtLet, api.StmtAssign, api.StmtSend, api.StmtOutput:
		s.Name = g.name()
		s.Args = g.exprs(1, 4)
	case api.StmtAssignAt:
		s.Name = g.name()
		s.Args = g.exprs(2, 3)
	case api.StmtEmit:
		s.Args = g.exprs(1, 5)
	case api.StmtIf:
		s.Args = g.exprs(1, 2)
		s.Body = g.stmts(levels - 1)
		s.Else = g.stmts(levels - 1)
	case api.StmtWhile:
		s.Args = g.exprs(1, 2)
		s.Body = g.stmts(levels - 1)
	case api.StmtRepeat, api.StmtFresh, api.StmtTogether:
		s.N = g.upTo()
		s.Body = g.stmts(levels - 1)
	}
	return s
}

func (g *generator) task() api.Task {
	t := api.Task{Name: g.name(), Deadline: g.upTo() * g.below(2), Body: g.stmts(1 + g.below(4))}
	if g.below(2) == 0 {
		t.Period = max(g.upTo(), 1)
		return t
	}
	t.Channel, t.Param, t.Within = g.name(), g.name(), g.upTo()*g.below(2)
	return t
}

// program returns a well-formed program without positions.
func (g *generator) program() api.Program {
	var p api.Program
	for range g.below(3) {
		p.Consts = append(p.Consts, api.Const{Name: g.name(), Value: g.signed()})
	}
	for range g.below(4) {
		v := api.Global{Name: g.name()}
		switch g.below(3) {
		case 0:
			v.Len = g.upTo()
		case 1:
			v.Init = g.signed()
		}
		p.Globals = append(p.Globals, v)
	}
	for range g.below(3) {
		p.Sensors = append(p.Sensors, g.name())
	}
	for range g.below(3) {
		p.Outputs = append(p.Outputs, g.name())
	}
	for range g.below(3) {
		p.Channels = append(p.Channels, api.Channel{Name: g.name(), Cap: g.upTo()})
	}
	for range g.below(3) {
		p.Tasks = append(p.Tasks, g.task())
	}
	return p
}

// skipped returns white space and comments, or nothing.
func (g *generator) skipped() string {
	s := ""
	for range g.below(3) {
		s += pick(g, []string{" ", "  ", "\t", "\n", "\r", "\r\n", "// \n", "//\n", "// let x = 1; }\n", "///*\"\x00\xff// (\r\n"})
	}
	return s
}

// spread returns a text with the same tokens as l and something that is skipped around them.
func (g *generator) spread(l []string) string {
	var b strings.Builder
	b.WriteString(g.skipped())
	for i, text := range l {
		if i > 0 && !apart(l[i-1], text) {
			b.WriteString(pick(g, []string{" ", "\t", "\n", "\r", "//\n"}))
		}
		b.WriteString(text)
		if text == "/" {
			b.WriteString(" ") // no comment may begin at this mark
		}
		b.WriteString(g.skipped())
	}
	if g.below(4) == 0 {
		b.WriteString("// the end")
	}
	return b.String()
}

// apart reports whether two tokens need no space between them.
func apart(a, b string) bool {
	l := []lexer.Token{{Kind: lexer.Ident, Text: a}, {Kind: lexer.Ident, Text: b}}
	return !strings.Contains(lexer.Join(l), " ")
}

// texts returns the texts of the tokens of a source text.
func texts(src string) []string {
	var l []string
	for _, t := range lexer.Scan(src) {
		l = append(l, t.Text)
	}
	return slices.Clip(l[:len(l)-1]) // without EOF
}
