package ast

import (
	"slices"
	"strings"

	"trickle/api"
)

// Short ways to write trees.

func num(n int16) api.Expr   { return api.Expr{Kind: api.ExprInt, Value: n} }
func name(s string) api.Expr { return api.Expr{Kind: api.ExprName, Name: s} }
func read(s string) api.Expr { return api.Expr{Kind: api.ExprRead, Name: s} }
func index(s string, x api.Expr) api.Expr {
	return api.Expr{Kind: api.ExprIndex, Name: s, Args: []api.Expr{x}}
}
func unary(op int, x api.Expr) api.Expr {
	return api.Expr{Kind: api.ExprUnary, Op: op, Args: []api.Expr{x}}
}
func binary(op int, a, b api.Expr) api.Expr {
	return api.Expr{Kind: api.ExprBinary, Op: op, Args: []api.Expr{a, b}}
}
func emit(x api.Expr) api.Stmt { return api.Stmt{Kind: api.StmtEmit, Args: []api.Expr{x}} }
func let(s string, x api.Expr) api.Stmt {
	return api.Stmt{Kind: api.StmtLet, Name: s, Args: []api.Expr{x}}
}
func assign(s string, x api.Expr) api.Stmt {
	return api.Stmt{Kind: api.StmtAssign, Name: s, Args: []api.Expr{x}}
}
func assignAt(s string, i, x api.Expr) api.Stmt {
	return api.Stmt{Kind: api.StmtAssignAt, Name: s, Args: []api.Expr{i, x}}
}
func send(s string, x api.Expr) api.Stmt {
	return api.Stmt{Kind: api.StmtSend, Name: s, Args: []api.Expr{x}}
}
func output(s string, x api.Expr) api.Stmt {
	return api.Stmt{Kind: api.StmtOutput, Name: s, Args: []api.Expr{x}}
}
func choice(x api.Expr, then, other []api.Stmt) api.Stmt {
	return api.Stmt{Kind: api.StmtIf, Args: []api.Expr{x}, Body: then, Else: other}
}
func while(x api.Expr, l ...api.Stmt) api.Stmt {
	return api.Stmt{Kind: api.StmtWhile, Args: []api.Expr{x}, Body: l}
}
func repeat(n int, l ...api.Stmt) api.Stmt   { return api.Stmt{Kind: api.StmtRepeat, N: n, Body: l} }
func fresh(n int, l ...api.Stmt) api.Stmt    { return api.Stmt{Kind: api.StmtFresh, N: n, Body: l} }
func together(n int, l ...api.Stmt) api.Stmt { return api.Stmt{Kind: api.StmtTogether, N: n, Body: l} }
func checkpoint() api.Stmt                   { return api.Stmt{Kind: api.StmtBoundary} }
func back() api.Stmt                         { return api.Stmt{Kind: api.StmtReturn} }
func list(l ...api.Stmt) []api.Stmt          { return l }

// tasked returns a program of one task with some statements.
func tasked(l ...api.Stmt) api.Program {
	return api.Program{Tasks: []api.Task{{Name: "t", Period: 1, Body: l}}}
}

// document is the program of the document's overview.
func document() (api.Program, string) {
	p := api.Program{
		Consts:   []api.Const{{Name: "LIMIT", Value: 30, Pos: 6}},
		Globals:  []api.Global{{Name: "count", Pos: 48}, {Name: "hist", Len: 8, Pos: 59}},
		Sensors:  []string{"temp"},
		Outputs:  []string{"led"},
		Channels: []api.Channel{{Name: "hot", Cap: 4, Pos: 76}},
		Tasks: []api.Task{
			{Name: "sample", Period: 100, Deadline: 50, Pos: 89, Body: list(
				fresh(40,
					let("t", read("temp")),
					choice(binary(api.OpGt, name("t"), name("LIMIT")), list(send("hot", name("t"))), nil),
				),
				assign("count", binary(api.OpAdd, name("count"), num(1))),
				assignAt("hist", binary(api.OpMod, name("count"), num(8)), name("count")),
			)},
			{Name: "report", Channel: "hot", Param: "t", Within: 500, Deadline: 200, Pos: 300, Body: list(
				emit(binary(api.OpMul, name("t"), num(2))),
				output("led", num(1)),
			)},
		},
	}
	return p, `const LIMIT = 30;
var count;
var hist[8];
sensor temp;
output led;
channel hot[4];
task sample every 100 deadline 50 {
    fresh 40 {
        let t = read(temp);
        if t > LIMIT {
            send hot t;
        }
    }
    count = count + 1;
    hist[count % 8] = count;
}
task report on hot(t) within 500 deadline 200 {
    emit t * 2;
    output led 1;
}
`
}

// everyExpr returns an expression of each kind and with each operator; everyStmt a statement of each kind, if
// statements with each choice of lists, and compound statements with and without statements inside.
func everyExpr() []api.Expr {
	l := []api.Expr{num(0), num(1), num(32767), name("x"), read("s"), index("a", num(2)), index("a", index("b", name("i")))}
	for op := api.OpNeg; op <= api.OpNot; op++ {
		l = append(l, unary(op, name("u")))
	}
	for op := api.OpAdd; op <= api.OpOr; op++ {
		l = append(l, binary(op, name("l"), name("r")))
	}
	return l
}

func everyStmt() []api.Stmt {
	return list(
		let("v", num(1)), assign("v", name("w")), assignAt("a", num(3), read("s")),
		choice(name("c"), nil, nil), choice(name("c"), list(back()), nil), choice(name("c"), nil, list(back())),
		choice(name("c"), list(checkpoint()), list(back(), emit(num(4)))), choice(name("c"), nil, list(choice(name("d"), nil, list(back())))),
		repeat(0), repeat(3, back()), while(name("c")), while(num(1), checkpoint(), back()),
		send("ch", num(5)), emit(num(6)), output("port", num(7)),
		fresh(8), fresh(32767, emit(read("s"))), together(0), together(9, let("x", read("s")), let("y", read("s"))),
		checkpoint(), back(),
	)
}

// sample is a program with declarations, statements and expressions of all kinds, and a position at every place.
func sample() api.Program {
	p := api.Program{
		Consts:   []api.Const{{Name: "ONE", Value: 1}, {Name: "LEAST", Value: -32767}},
		Globals:  []api.Global{{Name: "count"}, {Name: "limit", Init: -5}, {Name: "hist", Len: 8}},
		Sensors:  []string{"temp", "light"},
		Outputs:  []string{"led", "motor"},
		Channels: []api.Channel{{Name: "hot", Cap: 4}, {Name: "cold", Cap: 0}},
		Tasks: []api.Task{
			{Name: "first", Period: 10},
			{Name: "second", Period: 32767, Deadline: 7, Body: everyStmt()},
			{Name: "third", Channel: "hot", Param: "m", Body: list(repeat(2, everyStmt()...), while(num(1), everyStmt()...))},
			{Name: "fourth", Channel: "cold", Param: "n", Within: 3, Deadline: 4, Body: list(choice(read("temp"), everyStmt(), everyStmt()))},
		},
	}
	var deep []api.Stmt
	for _, x := range everyExpr() {
		deep = append(deep, emit(x), assignAt("hist", unary(api.OpNot, x), binary(api.OpSub, x, index("hist", x))))
	}
	p.Tasks = append(p.Tasks, api.Task{Name: "fifth", Period: 1, Body: list(fresh(1, together(2, repeat(3, while(num(4), choice(num(5), list(choice(num(6), nil, deep)), nil))))))})
	p = exact(p)
	number(&p, 1)
	return p
}

// number gives all positions in a tree different values from n on.
func number[T any](v *T, n int) {
	for _, s := range sites(v) {
		if s.isPosition() {
			s.value.SetInt(int64(n))
			n++
		}
	}
}

// chainOf returns an expression of so many levels, made of a leaf by a function.
func chainOf(levels int, x api.Expr, around func(api.Expr) api.Expr) api.Expr {
	for range levels - 1 {
		x = around(x)
	}
	return x
}

// nest returns a statement of so many levels, made of a leaf by a function.
func nest(levels int, s api.Stmt, around func(api.Stmt) api.Stmt) api.Stmt {
	for range levels - 1 {
		s = around(s)
	}
	return s
}

// generator makes numbers that follow no simple rule. Its value is never 0.
type generator uint64

// below returns a number from 0 to n-1.
func (g *generator) below(n int) int {
	*g ^= *g << 13
	*g ^= *g >> 7
	*g ^= *g << 17
	return int((uint64(*g) >> 20) % uint64(n))
}

// pick returns one of some values.
func pick[T any](g *generator, l []T) T { return l[g.below(len(l))] }

const someNameBytes = "abcxyzABCXYZ_0189"

// name returns an identifier: often one of a few, sometimes one next to a keyword or of any length.
func (g *generator) name() string {
	for {
		s := pick(g, []string{"a", "b", "x1", "_", "Y"})
		switch g.below(4) {
		case 0:
			s = pick(g, strings.Fields(allKeywords)) + pick(g, []string{"s", "_", "0", ""})
		case 1:
			for range g.below(35) {
				s += someNameBytes[g.below(len(someNameBytes)):][:1]
			}
		}
		if isName(s) {
			return s
		}
	}
}

// upTo returns a number from 0 to 32767, often a small one or the greatest one.
func (g *generator) upTo() int {
	return min(g.below(1<<g.below(17)), 32767)
}

// pos returns a position, which need not be one in any text.
func (g *generator) pos() int { return pick(g, []int{0, 0, 1, 7, 16384, -1, -1 << 63, 1<<63 - 1}) }

// expr returns a well-formed expression of up to so many levels.
func (g *generator) expr(levels int) api.Expr {
	x := api.Expr{Pos: g.pos(), Args: g.none()}
	x.Kind = pick(g, []int{api.ExprInt, api.ExprName, api.ExprRead})
	if levels > 1 {
		x.Kind = pick(g, []int{api.ExprInt, api.ExprName, api.ExprIndex, api.ExprRead, api.ExprUnary, api.ExprUnary, api.ExprBinary, api.ExprBinary, api.ExprBinary})
	}
	switch x.Kind {
	case api.ExprInt:
		x.Value = int16(g.upTo())
	case api.ExprName, api.ExprRead:
		x.Name = g.name()
	case api.ExprIndex:
		x.Name = g.name()
		x.Args = g.exprs(1, levels-1)
	case api.ExprUnary:
		x.Op = 1 + g.below(2)
		x.Args = g.exprs(1, levels-1)
	case api.ExprBinary:
		x.Op = 3 + g.below(13)
		x.Args = g.exprs(2, levels-1)
	}
	return x
}

func (g *generator) exprs(n, levels int) []api.Expr {
	var l []api.Expr
	for range n {
		l = append(l, g.expr(levels))
	}
	return l
}

// none returns no expressions: nil, or an empty slice.
func (g *generator) none() []api.Expr {
	return pick(g, [][]api.Expr{nil, {}})
}

// stmts returns up to four well-formed statements of up to so many levels.
func (g *generator) stmts(levels int) []api.Stmt {
	l := pick(g, [][]api.Stmt{nil, {}})
	if levels == 0 {
		return l
	}
	for range pick(g, []int{0, 1, 1, 1, 2, 3, 4}) {
		l = append(l, g.stmt(levels))
	}
	return slices.Clone(l)
}

func (g *generator) stmt(levels int) api.Stmt {
	s := api.Stmt{Kind: 1 + g.below(13), Pos: g.pos(), Args: g.none(), Body: g.stmts(0), Else: g.stmts(0)}
	if g.below(3) == 0 {
		s.Kind = api.StmtIf
	}
	switch s.Kind {
	case api.StmtLet, api.StmtAssign, api.StmtSend, api.StmtOutput:
		s.Name = g.name()
		s.Args = g.exprs(1, 4)
	case api.StmtAssignAt:
		s.Name = g.name()
		s.Args = g.exprs(2, 3)
	case api.StmtEmit:
		s.Args = g.exprs(1, 5)
	case api.StmtIf:
		s.Args = g.exprs(1, 2)
		s.Body = g.stmts(levels - 1)
		s.Else = g.stmts(levels - 1)
	case api.StmtWhile:
		s.Args = g.exprs(1, 2)
		s.Body = g.stmts(levels - 1)
	case api.StmtRepeat, api.StmtFresh, api.StmtTogether:
		s.N = g.upTo()
		s.Body = g.stmts(levels - 1)
	}
	return s
}

// signed returns a number from -32767 to 32767.
func (g *generator) signed() int16 { return int16(g.upTo() * (1 - 2*g.below(2))) }

func (g *generator) task() api.Task {
	t := api.Task{Name: g.name(), Deadline: g.upTo() * g.below(2), Body: g.stmts(1 + g.below(4)), Pos: g.pos()}
	if g.below(2) == 0 {
		t.Period = max(g.upTo(), 1)
		return t
	}
	t.Channel, t.Param, t.Within = g.name(), g.name(), g.upTo()*g.below(2)
	return t
}

// program returns a well-formed program.
func (g *generator) program() api.Program {
	var p api.Program
	for range g.below(3) {
		p.Consts = append(p.Consts, api.Const{Name: g.name(), Value: g.signed(), Pos: g.pos()})
	}
	for range g.below(4) {
		v := api.Global{Name: g.name(), Pos: g.pos()}
		switch g.below(3) {
		case 0:
			v.Len = g.upTo()
		case 1:
			v.Init = g.signed()
		}
		p.Globals = append(p.Globals, v)
	}
	for range g.below(3) {
		p.Sensors = append(p.Sensors, g.name())
	}
	for range g.below(3) {
		p.Outputs = append(p.Outputs, g.name())
	}
	for range g.below(3) {
		p.Channels = append(p.Channels, api.Channel{Name: g.name(), Cap: g.upTo(), Pos: g.pos()})
	}
	for range g.below(3) {
		p.Tasks = append(p.Tasks, g.task())
	}
	return p
}
