package parser

import (
	"reflect"
	"slices"
	"strings"
	"testing"

	"trickle/api"
	"trickle/ast"
	"trickle/lexer"
)

// P17.4: the canonical text of a random well-formed program is parsed as this program, apart from positions, and
// with nothing that makes it other than well-formed.
func TestCanonicalPrograms(t *testing.T) {
	g := generator(172)
	long := 0
	for range 4000 {
		p := g.program()
		src := ast.Format(p)
		if len(src) > api.MaxSource {
			long++
			bothTooLong(t, src)
			continue
		}
		got, l := Parse(src)
		if len(l) > 0 || !ast.Equal(got, p) || !same(ast.Strip(got), p) || !ast.WellFormed(got) {
			t.Fatalf("Parse(%q) = %+v, %v, not %+v", src, got, l, p)
		}
	}
	if long > 200 {
		t.Errorf("%d of the texts are too long", long)
	}
}

// P17.4: the same for expressions, of many shapes.
func TestCanonicalExprs(t *testing.T) {
	g := generator(173)
	for i := range 20000 {
		x := g.expr(1 + i%7)
		src := ast.Expr(x)
		got, l := ParseExpr(src)
		if len(l) > 0 || !ast.EqualExpr(got, x) || ast.Expr(got) != src {
			t.Fatalf("ParseExpr(%q) = %+v, %v, not %+v", src, got, l, x)
		}
	}
}

// P17.4: programs of one declaration with each number that is well-formed at its place.
func TestCanonicalNumbers(t *testing.T) {
	for n := range 32768 {
		c := int16(n)
		p := api.Program{
			Consts:   []api.Const{{Name: "a", Value: c}, {Name: "b", Value: -c}},
			Globals:  []api.Global{{Name: "c", Len: n}, {Name: "d", Init: c}, {Name: "e", Init: -c}},
			Channels: []api.Channel{{Name: "f", Cap: n}},
			Tasks: []api.Task{{Name: "g", Period: max(n, 1), Deadline: n}, {Name: "h", Channel: "i", Param: "j", Within: n, Deadline: n,
				Body: stmts(api.Stmt{Kind: api.StmtRepeat, N: n, Body: stmts(api.Stmt{Kind: api.StmtEmit, Args: exprs(num(c, 0))})})}},
		}
		if n > 300 && n < 32000 && n%97 > 0 {
			continue
		}
		got, l := Parse(ast.Format(p))
		if len(l) > 0 || !same(ast.Strip(got), p) {
			t.Fatalf("Parse(%q) = %+v, %v", ast.Format(p), got, l)
		}
	}
}

// P17.1, P17.2, P17.4: white space and comments put between the tokens of a text do not change the tree; each
// position is that of the same token as before. A syntax error stays at its token.
func TestSpreadTexts(t *testing.T) {
	g := generator(174)
	sources := append(sentences(), exprSentences()...)
	for range 200 {
		sources = append(sources, ast.Format(g.program()), ast.Expr(g.expr(5)))
	}
	for _, src := range sources {
		for range 5 {
			l := texts(src)
			if g.below(3) == 0 && len(l) > 0 {
				l[g.below(len(l))] = pick(&g, vocabulary())
			}
			checkSpread(t, strings.Join(l, " "), g.spread(l))
		}
	}
}

// checkSpread compares the results for two texts with the same tokens.
func checkSpread(t *testing.T, a, b string) {
	t.Helper()
	if !slices.Equal(texts(a), texts(b)) {
		t.Fatalf("%q and %q have different tokens", a, b)
	}
	if max(len(a), len(b)) > api.MaxSource {
		return
	}
	to := map[int]int{}
	moved := lexer.Scan(b)
	for i, token := range lexer.Scan(a) {
		to[token.Pos] = moved[i].Pos
	}
	sameMoved(t, "Parse", Parse, a, b, to)
	sameMoved(t, "ParseExpr", ParseExpr, a, b, to)
	checkParse(t, b)
	checkExpr(t, b)
}

// sameMoved checks that a function returns the same for two texts, apart from positions that have moved.
func sameMoved[T any](t *testing.T, name string, parse func(string) (T, []api.Diagnostic), a, b string, to map[int]int) {
	t.Helper()
	x, l := parse(a)
	y, m := parse(b)
	move(&l, to)
	if len(l) == 0 {
		move(&x, to)
	}
	if !same(x, y) || !same(l, m) {
		t.Fatalf("%s(%q) = %+v, %v, not %+v, %v", name, b, y, m, x, l)
	}
}

// move changes all positions of a tree or of diagnostics.
func move[T any](v *T, to map[int]int) { moveValue(reflect.ValueOf(v).Elem(), to) }

func moveValue(v reflect.Value, to map[int]int) {
	switch v.Kind() {
	case reflect.Struct:
		for i := range v.NumField() {
			if v.Type().Field(i).Name == "Pos" {
				v.Field(i).SetInt(int64(to[int(v.Field(i).Int())]))
			} else {
				moveValue(v.Field(i), to)
			}
		}
	case reflect.Slice:
		for i := range v.Len() {
			moveValue(v.Index(i), to)
		}
	}
}

// P17.1, P17.2: random changes of random texts.
func TestRandomEdits(t *testing.T) {
	g := generator(175)
	for range 300 {
		src := ast.Format(g.program())
		l := texts(src)
		if len(l) == 0 || len(l) > 600 {
			continue
		}
		for range 10 {
			changed := slices.Clone(l)
			for range 1 + g.below(3) {
				i := g.below(len(changed))
				changed = slices.Replace(changed, i, min(i+g.below(3), len(changed)), pick(&g, vocabulary()))
			}
			checkParse(t, g.spread(changed))
		}
	}
	for range 20000 {
		checkExpr(t, strings.Join(g.exprTokens(), " "))
	}
}

// exprTokens returns up to 12 tokens of expressions in no order, but often ones that match.
func (g *generator) exprTokens() []string {
	var l []string
	for range g.below(6) {
		l = append(l, pick(g, []string{"a", "1", "(", "-", "!", "read ( s )", "( a )", "a [ 1 ]"}), pick(g, append([]string{")", "]", ""}, opTexts[3:]...)))
	}
	return append(l, pick(g, []string{"a", ""}))
}

// P17.1, P17.2: random bytes, of which some are tokens.
func TestRandomBytes(t *testing.T) {
	g := generator(176)
	for range 20000 {
		b := make([]byte, g.below(12))
		for i := range b {
			b[i] = byte(g.below(256))
			if g.below(4) > 0 {
				b[i] = "a1 ;-=()[]{}<>!&|+*/%\n"[g.below(22)]
			}
		}
		checkParse(t, string(b))
		checkExpr(t, string(b))
	}
}

// P1: results share no memory with each other, and no two slices of one result share memory.
func TestResultsShareNoMemory(t *testing.T) {
	g := generator(177)
	for _, src := range append(sentences(), documentText, "var v; ? 00 ?", "; ;", ast.Format(g.program()), ast.Format(g.program())) {
		p, l := Parse(src)
		q, m := Parse(src)
		disjoint(t, p, l, q, m)
	}
	for _, src := range append(exprSentences(), "?", "; ?", ";", ast.Expr(g.expr(9))) {
		x, l := ParseExpr(src)
		y, m := ParseExpr(src)
		disjoint(t, x, l, y, m)
	}
}

// disjoint checks that no two slices in some values share memory, not even behind their ends.
func disjoint(t *testing.T, values ...any) {
	t.Helper()
	var spans [][2]uintptr
	var collect func(v reflect.Value)
	collect = func(v reflect.Value) {
		switch v.Kind() {
		case reflect.Struct:
			for i := range v.NumField() {
				collect(v.Field(i))
			}
		case reflect.Slice:
			if v.Cap() > 0 {
				spans = append(spans, [2]uintptr{v.Pointer(), v.Pointer() + uintptr(v.Cap())*v.Type().Elem().Size()})
			}
			for i := range v.Len() {
				collect(v.Index(i))
			}
		}
	}
	for _, v := range values {
		collect(reflect.ValueOf(v))
	}
	slices.SortFunc(spans, func(a, b [2]uintptr) int { return slices.Compare(a[:], b[:]) })
	for i := range len(spans) - 1 {
		if spans[i][1] > spans[i+1][0] {
			t.Fatalf("two slices share memory")
		}
	}
}

// P1: the same text has the same result, whatever was parsed before.
func TestNothingIsKept(t *testing.T) {
	for _, src := range append(sentences(), exprSentences()...) {
		p, l := Parse(src)
		x, m := ParseExpr(src)
		Parse("task t every 1 { if a { (")
		ParseExpr(documentText)
		q, n := Parse(src)
		y, o := ParseExpr(src)
		if !same(p, q) || !same(l, n) || !same(x, y) || !same(m, o) {
			t.Errorf("different results for %q", src)
		}
	}
}
