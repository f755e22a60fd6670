package ast

import (
	"fmt"
	"strings"
	"testing"

	"trickle/api"
)

// depths are some numbers of levels of trees, up to the greatest one. The others are ahead of it, because what goes
// wrong at every level is much work when it is found at the greatest depth.
func depths() []int { return []int{3, 4, 11, 1 << 16} }

// P16.1, P1: expressions of many levels.
func TestDeepExpressions(t *testing.T) {
	for _, n := range depths() {
		checkDeepExpr(t, n, "-", "", 1, func(x api.Expr) api.Expr { return unary(api.OpNeg, x) })
		checkDeepExpr(t, n, "a[", "]", 1, func(x api.Expr) api.Expr { return index("a", x) })
		checkDeepExpr(t, n, "", " - 1", 2, func(x api.Expr) api.Expr { return binary(api.OpSub, x, num(1)) })
		checkDeepExpr(t, n, "7 + (", ")", 2, func(x api.Expr) api.Expr { return binary(api.OpAdd, num(7), x) })
		checkDeepExpr(t, n, "(", " < 1)", 2, func(x api.Expr) api.Expr { return binary(api.OpLt, x, num(1)) })
	}
}

// checkDeepExpr checks a chain of expressions on so many levels, each of which has some text on both sides of the
// inner one, and makes some expressions more. The innermost text, and the outermost one, are without parentheses.
func checkDeepExpr(t *testing.T, n int, left, right string, more int, around func(api.Expr) api.Expr) {
	t.Helper()
	what := left + " " + right
	x := chainOf(n, name("a"), around)
	want := strings.Repeat(left, n-1) + "a" + strings.Repeat(right, n-1)
	switch {
	case strings.HasSuffix(left, "+ ("):
		want = strings.Repeat(left, n-2) + "7 + a" + strings.Repeat(right, n-2)
	case strings.HasPrefix(right, " <"):
		want = strings.Repeat(left, n-2) + "a" + strings.Repeat(right, n-2) + " < 1"
	}
	if got := Expr(x); got != want {
		t.Fatalf("%s: the text is %.40q..., want %.40q...", what, got, want)
	}
	p, q := tasked(emit(x)), tasked(emit(chainOf(n, name("a"), around)))
	checkDeep(t, what, p, q, 2+(n-1)*more, 1+n)
	if text := inTask("emit " + want + ";"); Format(p) != text {
		t.Fatalf("%s: another text", what)
	}
	other := chainOf(n, name("b"), around)
	if !EqualExpr(x, q.Tasks[0].Body[0].Args[0]) || EqualExpr(x, other) || EqualExpr(other, x) {
		t.Fatalf("%s: EqualExpr is wrong", what)
	}
	spoilt := chainOf(n, api.Expr{Kind: 2}, around)
	if Expr(spoilt) != "" || WellFormed(tasked(emit(spoilt))) || Format(tasked(emit(spoilt))) != "" {
		t.Fatalf("%s: what is not well-formed deep inside is not found", what)
	}
}

// checkDeep checks two equal programs that are made in the same way, without going through them by recursion.
func checkDeep(t *testing.T, what string, p, q api.Program, size, depth int) {
	t.Helper()
	if Size(p) != size || Depth(p) != depth {
		t.Fatalf("%s: size %d, depth %d, want %d, %d", what, Size(p), Depth(p), size, depth)
	}
	if !WellFormed(p) || !Equal(p, q) || !Equal(p, Strip(q)) {
		t.Fatalf("%s: not well-formed, or not equal", what)
	}
	n := 0
	for range Stmts(p.Tasks[0].Body) {
		n++
	}
	for range Exprs(p.Tasks[0].Body) {
		n++
	}
	if n != size {
		t.Fatalf("%s: %d statements and expressions, want %d", what, n, size)
	}
}

// inner returns the statement inside another one, or nil.
func inner(s *api.Stmt) *api.Stmt {
	switch {
	case len(s.Body) > 0:
		return &s.Body[0]
	case len(s.Else) > 0:
		return &s.Else[0]
	}
	return nil
}

// P16.1, P1: statements of many levels. Their texts would be too long.
func TestDeepStatements(t *testing.T) {
	for _, n := range depths() {
		checkDeepStmt(t, n, "repeat", 0, func(s api.Stmt) api.Stmt { return repeat(1, s) })
		checkDeepStmt(t, n, "while", 1, func(s api.Stmt) api.Stmt { return while(num(1), s) })
		checkDeepStmt(t, n, "fresh", 0, func(s api.Stmt) api.Stmt { return fresh(1, s) })
		checkDeepStmt(t, n, "if", 1, func(s api.Stmt) api.Stmt { return choice(num(1), list(s), nil) })
		checkDeepStmt(t, n, "else", 1, func(s api.Stmt) api.Stmt { return choice(num(1), nil, list(s)) })
	}
}

// checkDeepStmt checks a chain of statements on so many levels, of which all but the innermost have some arguments.
func checkDeepStmt(t *testing.T, n int, what string, args int, around func(api.Stmt) api.Stmt) {
	t.Helper()
	p, q := tasked(nest(n, back(), around)), tasked(nest(n, back(), around))
	checkDeep(t, what, p, q, n+(n-1)*args, n)
	for _, innermost := range []api.Stmt{checkpoint(), {}, {Kind: api.StmtReturn, N: 1}} {
		other := tasked(nest(n, innermost, around))
		if Equal(p, other) || Equal(other, p) {
			t.Fatalf("%s: equal to another program", what)
		}
		if innermost.Kind != api.StmtBoundary && (WellFormed(other) || Format(other) != "") {
			t.Fatalf("%s: what is not well-formed deep inside is not found", what)
		}
	}
	for s := &p.Tasks[0].Body[0]; s != nil; s = inner(s) {
		s.Pos = 5
	}
	stripped := Strip(p)
	levels := 0
	for s := &stripped.Tasks[0].Body[0]; s != nil; s = inner(s) {
		if s.Pos != 0 {
			t.Fatalf("%s: the position of a statement is %d", what, s.Pos)
		}
		levels++
	}
	if levels != n || !Equal(p, stripped) || p.Tasks[0].Body[0].Pos != 5 {
		t.Fatalf("%s: Strip is wrong", what)
	}
}

// P16.1, P1: chains of if statements are not indented, so that the text of a long one is not too long.
func TestDeepElse(t *testing.T) {
	for _, n := range depths() {
		p := tasked(nest(n, choice(num(3), nil, list(back())), func(s api.Stmt) api.Stmt { return choice(num(2), list(emit(num(1))), list(s)) }))
		want := "task t every 1 {\n    if 2 {\n        emit 1;\n" + strings.Repeat("    } else if 2 {\n        emit 1;\n", n-2) + "    } else if 3 {\n    } else {\n        return;\n    }\n}\n"
		if got := Format(p); got != want {
			t.Fatalf("the text is %.100q..., want %.100q...", got, want)
		}
	}
}

// P16.1: the lines of nested statements are indented by four spaces for each level.
func TestDeepIndentation(t *testing.T) {
	const n = 1000
	p := tasked(nest(n, back(), func(s api.Stmt) api.Stmt { return repeat(1, s) }))
	var lines []string
	for i := range n - 1 {
		lines = append(lines, strings.Repeat(" ", 4*i)+"repeat 1 {")
	}
	lines = append(lines, strings.Repeat(" ", 4*(n-1))+"return;")
	for i := n - 2; i >= 0; i-- {
		lines = append(lines, strings.Repeat(" ", 4*i)+"}")
	}
	if got, want := Format(p), inTask(lines...); got != want {
		t.Errorf("the text is %.100q..., want %.100q...", got, want)
	}
}

// P16.1, P1: long lists of everything.
func TestLongLists(t *testing.T) {
	const n = 1 << 14
	var p api.Program
	var want strings.Builder
	add := func(prefix string, line string, more func(s string)) {
		for i := range n {
			s := fmt.Sprint(prefix, i)
			more(s)
			want.WriteString(strings.ReplaceAll(line, "?", s) + "\n")
		}
	}
	add("c", "const ? = -1;", func(s string) { p.Consts = append(p.Consts, api.Const{Name: s, Value: -1}) })
	add("g", "var ?;", func(s string) { p.Globals = append(p.Globals, api.Global{Name: s}) })
	add("s", "sensor ?;", func(s string) { p.Sensors = append(p.Sensors, s) })
	add("o", "output ?;", func(s string) { p.Outputs = append(p.Outputs, s) })
	add("h", "channel ?[3];", func(s string) { p.Channels = append(p.Channels, api.Channel{Name: s, Cap: 3}) })
	add("t", "task ? on c(p) {\n}", func(s string) { p.Tasks = append(p.Tasks, api.Task{Name: s, Channel: "c", Param: "p"}) })
	p.Tasks = append(p.Tasks, api.Task{Name: "last", Period: 1})
	want.WriteString("task last every 1 {\n")
	last := &p.Tasks[n]
	add("x", "    emit ?;", func(s string) { last.Body = append(last.Body, emit(name(s))) })
	want.WriteString("}\n")
	if Format(p) != want.String() || Size(p) != 2*n || Depth(p) != 2 || !Equal(p, Strip(p)) {
		t.Error("a program with long lists is wrong")
	}
	last.Body[n-1].Args[0].Name = "if"
	if WellFormed(p) || Format(p) != "" {
		t.Error("what is not well-formed at the end is not found")
	}
}
