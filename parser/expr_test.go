package parser

import (
	"fmt"
	"strings"
	"testing"

	"trickle/api"
	"trickle/ast"
	"trickle/lexer"
)

// P17.1: trees and positions, by hand.
func TestExprByHand(t *testing.T) {
	for src, want := range map[string]string{
		"1 + 2 * x":               "(1@0 + (2@4 * x@8)@6)@2",
		"0":                       "0@0",
		"32767":                   "32767@0",
		"abc":                     "abc@0",
		" \n\tabc // x\n":         "abc@3",
		"read(s)":                 "read(s)@0",
		"  read // (\n ( s )":     "read(s)@2",
		"a[i]":                    "a[i@2]@0",
		" a [ i ] ":               "a[i@5]@1",
		"a[b[c[1]]]":              "a[b[c[1@6]@4]@2]@0",
		"-a":                      "(-a@1)@0",
		"- - ! ! a":               "(-(-(!(!a@8)@6)@4)@2)@0",
		"-1":                      "(-1@1)@0",
		"-32767":                  "(-32767@1)@0",
		"(a)":                     "a@1",
		"((( a )))":               "a@4",
		"-(a)":                    "(-a@2)@0",
		"(-a)":                    "(-a@2)@1",
		"(a + b)":                 "(a@1 + b@5)@3",
		"(a) + (b)":               "(a@1 + b@7)@4",
		"( a ) [ b":               "",
		"a - b - c":               "((a@0 - b@4)@2 - c@8)@6",
		"a-(b-c)":                 "(a@0 - (b@3 - c@5)@4)@1",
		"a+b-c+d":                 "(((a@0 + b@2)@1 - c@4)@3 + d@6)@5",
		"a*b/c%d":                 "(((a@0 * b@2)@1 / c@4)@3 % d@6)@5",
		"a*b+c*d":                 "((a@0 * b@2)@1 + (c@4 * d@6)@5)@3",
		"a*(b+c)*d":               "((a@0 * (b@3 + c@5)@4)@1 * d@8)@7",
		"a||b||c":                 "((a@0 || b@3)@1 || c@6)@4",
		"a&&b&&c":                 "((a@0 && b@3)@1 && c@6)@4",
		"a||b&&c||d":              "((a@0 || (b@3 && c@6)@4)@1 || d@9)@7",
		"a&&b||c&&d":              "((a@0 && b@3)@1 || (c@6 && d@9)@7)@4",
		"a<b&&c>=d":               "((a@0 < b@2)@1 && (c@5 >= d@8)@6)@3",
		"a+1==b-1":                "((a@0 + 1@2)@1 == (b@5 - 1@7)@6)@3",
		"(a<b)<c":                 "((a@1 < b@3)@2 < c@6)@5",
		"a<(b<c)":                 "(a@0 < (b@3 < c@5)@4)@1",
		"(a==b)!=(c<=d)":          "((a@1 == b@4)@2 != (c@9 <= d@12)@10)@6",
		"-a*b":                    "((-a@1)@0 * b@3)@2",
		"a*-b":                    "(a@0 * (-b@3)@2)@1",
		"a--b":                    "(a@0 - (-b@3)@2)@1",
		"a---b":                   "(a@0 - (-(-b@4)@3)@2)@1",
		"!a==b":                   "((!a@1)@0 == b@4)@2",
		"!(a==b)":                 "(!(a@2 == b@5)@3)@0",
		"a! =b":                   "",
		"a!=!b":                   "(a@0 != (!b@4)@3)@1",
		"-a[1]":                   "(-a[1@3]@1)@0",
		"-read(s)":                "(-read(s)@1)@0",
		"a[b+1]*read(s)":          "(a[(b@2 + 1@4)@3]@0 * read(s)@7)@6",
		"a[x||y]":                 "a[(x@2 || y@5)@3]@0",
		"reads":                   "reads@0",
		"a// x\n+// y\n(// z\nb)": "(a@0 + b@18)@6",
	} {
		x, l := ParseExpr(src)
		got := ""
		if len(l) == 0 {
			got = show(x)
		}
		if got != want {
			t.Errorf("ParseExpr(%q) = %s, %v, not %s", src, got, l, want)
		}
		checkExpr(t, src)
	}
}

// P17.1: the fields of each kind of expression; all others are zero.
func TestExprFields(t *testing.T) {
	x := name("x", 0)
	for src, want := range map[string]api.Expr{
		"7":         {Kind: api.ExprInt, Value: 7},
		" x":        {Kind: api.ExprName, Name: "x", Pos: 1},
		"  read(x)": {Kind: api.ExprRead, Name: "x", Pos: 2},
		"y[1]":      {Kind: api.ExprIndex, Name: "y", Args: exprs(num(1, 2))},
		"-1":        {Kind: api.ExprUnary, Op: api.OpNeg, Args: exprs(num(1, 1))},
		"!1":        {Kind: api.ExprUnary, Op: api.OpNot, Args: exprs(num(1, 1))},
		"x+2":       {Kind: api.ExprBinary, Op: api.OpAdd, Args: exprs(x, num(2, 2)), Pos: 1},
		"x-2":       {Kind: api.ExprBinary, Op: api.OpSub, Args: exprs(x, num(2, 2)), Pos: 1},
		"x*2":       {Kind: api.ExprBinary, Op: api.OpMul, Args: exprs(x, num(2, 2)), Pos: 1},
		"x/2":       {Kind: api.ExprBinary, Op: api.OpDiv, Args: exprs(x, num(2, 2)), Pos: 1},
		"x%2":       {Kind: api.ExprBinary, Op: api.OpMod, Args: exprs(x, num(2, 2)), Pos: 1},
		"x==2":      {Kind: api.ExprBinary, Op: api.OpEq, Args: exprs(x, num(2, 3)), Pos: 1},
		"x!=2":      {Kind: api.ExprBinary, Op: api.OpNe, Args: exprs(x, num(2, 3)), Pos: 1},
		"x<2":       {Kind: api.ExprBinary, Op: api.OpLt, Args: exprs(x, num(2, 2)), Pos: 1},
		"x<=2":      {Kind: api.ExprBinary, Op: api.OpLe, Args: exprs(x, num(2, 3)), Pos: 1},
		"x>2":       {Kind: api.ExprBinary, Op: api.OpGt, Args: exprs(x, num(2, 2)), Pos: 1},
		"x>=2":      {Kind: api.ExprBinary, Op: api.OpGe, Args: exprs(x, num(2, 3)), Pos: 1},
		"x&&2":      {Kind: api.ExprBinary, Op: api.OpAnd, Args: exprs(x, num(2, 3)), Pos: 1},
		"x||2":      {Kind: api.ExprBinary, Op: api.OpOr, Args: exprs(x, num(2, 3)), Pos: 1},
	} {
		got, l := ParseExpr(src)
		if !same(got, want) || len(l) > 0 {
			t.Errorf("ParseExpr(%q) = %+v, %v, not %+v", src, got, l, want)
		}
	}
}

// P17.1: int goes from 0 to 32767; a minus sign is an operator of its own.
func TestExprIntegers(t *testing.T) {
	for _, n := range []int{0, 1, 9, 10, 255, 256, 32766, 32767} {
		for _, sign := range []string{"", "-", "- ", "--", "!"} {
			src := sign + fmt.Sprint(n)
			if l := checkExpr(t, src); len(l) > 0 {
				t.Errorf("ParseExpr(%q): %v", src, l)
			}
		}
	}
	for _, src := range []string{"32768", "-32768", "00", "01", "65536", "65537"} {
		if l := checkExpr(t, src); len(l) != 1 || l[0].Text != "invalid integer" {
			t.Errorf("ParseExpr(%q): %v", src, l)
		}
	}
}

// operands returns expressions whose outermost part is each operator, with and without parentheses, or none.
func operands(n string) []string {
	l := []string{n, "(" + n + ")", "-" + n, "!" + n, "(-" + n + ")", n + "[1]", "read(" + n + ")", "3"}
	for _, op := range opTexts[3:] {
		l = append(l, n+op+n, "("+n+op+n+")")
	}
	return l
}

// P17.1, P17.2: each operator in each operand of each operator, with and without parentheses: two comparisons in a
// row without parentheses are a syntax error at the second one, all others are trees of the right shape.
func TestOperatorsInOperands(t *testing.T) {
	for _, op := range opTexts[3:] {
		for _, a := range operands("a") {
			for _, b := range operands("b") {
				checkExpr(t, a+op+b)
				checkExpr(t, "a[ "+a+op+b+" ]")
			}
		}
	}
	for _, op := range opTexts[1:3] {
		for _, a := range operands("a") {
			checkExpr(t, op+a)
			checkExpr(t, op+"("+a+")")
			checkExpr(t, op+op+a)
		}
	}
}

// isComparison reports whether an operator is a comparison.
func isComparison(op int) bool { return opLevels[op] == 3 }

// P17.1, P17.2: a op b op2 c by the precedences of P17.3.
func TestTwoOperators(t *testing.T) {
	for first := 3; first <= 15; first++ {
		for second := 3; second <= 15; second++ {
			one, two := opTexts[first], opTexts[second]
			src := "a " + one + " b " + two + " c"
			x, l := ParseExpr(src)
			if isComparison(first) && isComparison(second) {
				if !same(l, []api.Diagnostic{{Pos: len("a b  ") + len(one), Text: "syntax error"}}) || !same(x, api.Expr{}) {
					t.Errorf("ParseExpr(%q) = %+v, %v", src, x, l)
				}
				continue
			}
			want := "((a " + one + " b) " + two + " c)"
			if opLevels[second] > opLevels[first] {
				want = "(a " + one + " (b " + two + " c))"
			}
			if got := bare(show(x)); got != want || len(l) > 0 {
				t.Errorf("ParseExpr(%q) = %s, %v, not %s", src, got, l, want)
			}
		}
	}
}

// P17.1, P17.2: all expressions of four operands.
func TestThreeOperators(t *testing.T) {
	for _, one := range opTexts[3:] {
		for _, two := range opTexts[3:] {
			for _, three := range opTexts[3:] {
				checkExpr(t, "a"+one+"b"+two+"c"+three+"d")
			}
		}
	}
}

// P17.1: chains of one operator lean to the left, and so do mixed ones of one level.
func TestChains(t *testing.T) {
	for op := 3; op <= 15; op++ {
		if isComparison(op) {
			continue
		}
		want := "a"
		for n := 1; n <= 40; n++ {
			want = "(" + want + " " + opTexts[op] + " a)"
			src := "a" + strings.Repeat(opTexts[op]+"a", n)
			x, l := ParseExpr(src)
			if got := bare(show(x)); got != want || len(l) > 0 {
				t.Fatalf("ParseExpr(%q) = %s, %v, not %s", src, got, l, want)
			}
		}
	}
	checkExpr(t, "a + b - c - d + e * f / g % h * i - j")
	checkExpr(t, "a < b && c < d && e < f || g == h || i != j && k")
}

// P17.2: a comparison behind a comparison is an error at its operator, wherever the first one stands.
func TestComparisonsInARow(t *testing.T) {
	for src, pos := range map[string]int{
		"a < b < c":               6,
		"a == b == c":             7,
		"a < b + 1 >= c":          10,
		"x || y && a < b * 2 < c": 20,
		"(a < b < c)":             7,
		"m[a < b < c]":            8,
		"a && b < c < d && e":     11,
		"!a < b != c":             7,
		"(a < b) < c < d":         12,
		"(a < b) < (c < d) == e":  18,
	} {
		if l := checkExpr(t, src); !same(l, []api.Diagnostic{{Pos: pos, Text: "syntax error"}}) {
			t.Errorf("ParseExpr(%q): %v, not %d", src, l, pos)
		}
	}
}

// nests are what can be put around an expression, and how the tree changes.
var nests = []struct {
	before, after string
	around        func(api.Expr) api.Expr
}{
	{"(", ")", func(x api.Expr) api.Expr { return x }},
	{"-", "", func(x api.Expr) api.Expr { return api.Expr{Kind: api.ExprUnary, Op: api.OpNeg, Args: exprs(x)} }},
	{"!", "", func(x api.Expr) api.Expr { return api.Expr{Kind: api.ExprUnary, Op: api.OpNot, Args: exprs(x)} }},
	{"a[", "]", func(x api.Expr) api.Expr { return api.Expr{Kind: api.ExprIndex, Name: "a", Args: exprs(x)} }},
	{"1-(", ")", func(x api.Expr) api.Expr { return binary(api.OpSub, num(1, 0), x, 0) }},
	{"(", ")*2", func(x api.Expr) api.Expr { return binary(api.OpMul, x, num(2, 0), 0) }},
	{"(", ")<2", func(x api.Expr) api.Expr { return binary(api.OpLt, x, num(2, 0), 0) }},
	{"1||(", ")", func(x api.Expr) api.Expr { return binary(api.OpOr, num(1, 0), x, 0) }},
}

// P17.1, P1: expressions inside expressions, up to as many levels as MaxSource bytes can hold.
func TestDeepExpr(t *testing.T) {
	for _, n := range nests {
		x := name("x", 0)
		levels := 0
		for _, most := range []int{1, 2, 3, 10, 100, (api.MaxSource - 1) / len(n.before+n.after)} {
			for ; levels < most; levels++ {
				x = n.around(x)
			}
			src := strings.Repeat(n.before, levels) + "x" + strings.Repeat(n.after, levels)
			got, l := ParseExpr(src)
			if len(l) > 0 || !ast.EqualExpr(got, x) {
				t.Fatalf("%d levels of %q%q: %v", levels, n.before, n.after, l)
			}
			deep(t, src[1:])
			deep(t, src[:len(src)-1])
			deep(t, src+")")
		}
	}
}

// deep compares the diagnostics alone: the tree is too deep for the model.
func deep(t *testing.T, src string) {
	t.Helper()
	x, l := ParseExpr(src)
	if want := diagnosticsOf("expr", src); !same(l, want) || len(l) > 0 && !same(x, api.Expr{}) {
		t.Fatalf("ParseExpr of %d bytes: %v, not %v", len(src), l, want)
	}
}

// exprVocabulary has a text for each kind of token that expressions can contain, and others.
var exprVocabulary = []string{"1", "a", "read", "-", "!", "*", "+", "<", "==", "&&", "||", "(", ")", "[", "]", ";", "let"}

// P17.1, P17.2: all short sequences of tokens that could begin an expression, and each of them with one more token.
func TestShortExprs(t *testing.T) {
	var extend func(l []derivation, src string, more int)
	extend = func(l []derivation, src string, more int) {
		checkExpr(t, src)
		if more == 0 {
			return
		}
		for _, text := range exprVocabulary {
			if next := after(l, lexer.Scan(text)[0]); len(next) > 0 {
				extend(next, src+" "+text, more-1)
			} else {
				checkExpr(t, src+" "+text)
			}
		}
	}
	extend(begin("expr"), "", 5)
}
