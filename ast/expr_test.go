package ast

import (
	"fmt"
	"math"
	"strings"
	"testing"

	"trickle/api"
)

// P16.1: the example of the chapter.
func TestExampleExpr(t *testing.T) {
	x := binary(api.OpMul, binary(api.OpAdd, name("a"), name("b")), unary(api.OpNeg, binary(api.OpSub, name("c"), num(1))))
	if got := Expr(x); got != "(a + b) * -(c - 1)" {
		t.Errorf("Expr returns %q", got)
	}
}

// P16.1: expressions printed by hand.
func TestExprByHand(t *testing.T) {
	a, b, c := name("a"), name("b"), name("c")
	for _, x := range []struct {
		x    api.Expr
		want string
	}{
		{num(0), "0"}, {num(7), "7"}, {num(10), "10"}, {num(32767), "32767"},
		{a, "a"}, {name("_"), "_"}, {name("If"), "If"}, {read("temp"), "read(temp)"},
		{index("h", num(0)), "h[0]"}, {index("h", index("g", a)), "h[g[a]]"}, {index("h", read("s")), "h[read(s)]"},
		{index("h", binary(api.OpOr, a, b)), "h[a || b]"}, {index("h", unary(api.OpNeg, a)), "h[-a]"},
		{unary(api.OpNeg, num(1)), "-1"}, {unary(api.OpNot, a), "!a"}, {unary(api.OpNeg, read("s")), "-read(s)"}, {unary(api.OpNot, index("h", a)), "!h[a]"},
		{unary(api.OpNeg, unary(api.OpNeg, a)), "--a"}, {unary(api.OpNot, unary(api.OpNot, a)), "!!a"}, {unary(api.OpNeg, unary(api.OpNot, a)), "-!a"}, {unary(api.OpNot, unary(api.OpNeg, num(0))), "!-0"},
		{unary(api.OpNeg, unary(api.OpNot, binary(api.OpMul, a, b))), "-!(a * b)"},
		{unary(api.OpNeg, binary(api.OpMul, a, b)), "-(a * b)"}, {unary(api.OpNot, binary(api.OpOr, a, b)), "!(a || b)"}, {unary(api.OpNot, binary(api.OpEq, a, b)), "!(a == b)"},
		{binary(api.OpAdd, a, b), "a + b"}, {binary(api.OpSub, a, b), "a - b"}, {binary(api.OpMul, a, b), "a * b"}, {binary(api.OpDiv, a, b), "a / b"}, {binary(api.OpMod, a, b), "a % b"},
		{binary(api.OpEq, a, b), "a == b"}, {binary(api.OpNe, a, b), "a != b"}, {binary(api.OpLt, a, b), "a < b"}, {binary(api.OpLe, a, b), "a <= b"}, {binary(api.OpGt, a, b), "a > b"}, {binary(api.OpGe, a, b), "a >= b"},
		{binary(api.OpAnd, a, b), "a && b"}, {binary(api.OpOr, a, b), "a || b"},
		{binary(api.OpAdd, binary(api.OpAdd, a, b), c), "a + b + c"}, {binary(api.OpAdd, a, binary(api.OpAdd, b, c)), "a + (b + c)"},
		{binary(api.OpSub, binary(api.OpAdd, a, b), c), "a + b - c"}, {binary(api.OpAdd, a, binary(api.OpSub, b, c)), "a + (b - c)"},
		{binary(api.OpMod, binary(api.OpDiv, a, b), c), "a / b % c"}, {binary(api.OpMul, a, binary(api.OpMod, b, c)), "a * (b % c)"},
		{binary(api.OpAdd, binary(api.OpMul, a, b), c), "a * b + c"}, {binary(api.OpAdd, a, binary(api.OpMul, b, c)), "a + b * c"},
		{binary(api.OpMul, binary(api.OpAdd, a, b), c), "(a + b) * c"}, {binary(api.OpMul, a, binary(api.OpAdd, b, c)), "a * (b + c)"},
		{binary(api.OpLt, binary(api.OpLt, a, b), c), "(a < b) < c"}, {binary(api.OpLt, a, binary(api.OpLt, b, c)), "a < (b < c)"}, {binary(api.OpEq, binary(api.OpGe, a, b), c), "(a >= b) == c"},
		{binary(api.OpLe, binary(api.OpAdd, a, b), binary(api.OpSub, b, c)), "a + b <= b - c"}, {binary(api.OpAdd, binary(api.OpLe, a, b), binary(api.OpNe, b, c)), "(a <= b) + (b != c)"},
		{binary(api.OpAnd, binary(api.OpAnd, a, b), c), "a && b && c"}, {binary(api.OpAnd, a, binary(api.OpAnd, b, c)), "a && (b && c)"},
		{binary(api.OpOr, binary(api.OpOr, a, b), c), "a || b || c"}, {binary(api.OpOr, a, binary(api.OpOr, b, c)), "a || (b || c)"},
		{binary(api.OpOr, binary(api.OpAnd, a, b), binary(api.OpAnd, b, c)), "a && b || b && c"}, {binary(api.OpAnd, binary(api.OpOr, a, b), binary(api.OpOr, b, c)), "(a || b) && (b || c)"},
		{binary(api.OpAnd, binary(api.OpEq, a, b), binary(api.OpLt, b, c)), "a == b && b < c"}, {binary(api.OpEq, binary(api.OpAnd, a, b), binary(api.OpOr, b, c)), "(a && b) == (b || c)"},
		{binary(api.OpSub, unary(api.OpNeg, a), unary(api.OpNeg, b)), "-a - -b"}, {binary(api.OpMul, unary(api.OpNot, a), unary(api.OpNeg, unary(api.OpNeg, b))), "!a * --b"},
		{binary(api.OpDiv, index("h", binary(api.OpAdd, a, b)), read("s")), "h[a + b] / read(s)"},
		{binary(api.OpMul, unary(api.OpNeg, binary(api.OpMul, a, b)), c), "-(a * b) * c"},
	} {
		if got := Expr(x.x); got != x.want {
			t.Errorf("Expr(%+v) = %q, want %q", x.x, got, x.want)
		}
		if !checkExpr(t, x.x) || !same(readExpr(x.want), x.x) {
			t.Errorf("the definitions of %q are wrong", x.want)
		}
	}
}

// operators in the order of their levels, written out for this test.
var levels = [][]int{{api.OpOr}, {api.OpAnd}, {api.OpEq, api.OpNe, api.OpLt, api.OpLe, api.OpGt, api.OpGe}, {api.OpAdd, api.OpSub}, {api.OpMul, api.OpDiv, api.OpMod}, {api.OpNeg, api.OpNot}}

// P16.1: each operator in each operand of each operator, with parentheses where the levels demand them.
func TestOperatorsInOperators(t *testing.T) {
	make := func(op int, prefix string) (api.Expr, string) {
		if op <= api.OpNot {
			return unary(op, name(prefix)), opTexts[op] + prefix
		}
		return binary(op, name(prefix+"1"), name(prefix+"2")), prefix + "1 " + opTexts[op] + " " + prefix + "2"
	}
	parens := func(text string, needed bool) string {
		if needed {
			return "(" + text + ")"
		}
		return text
	}
	n := 0
	for outerLevel, outers := range levels {
		for _, outer := range outers {
			for innerLevel, inners := range levels {
				for _, inner := range inners {
					x, text := make(inner, "x")
					comparison := outerLevel == 2
					if outer <= api.OpNot {
						checkText(t, unary(outer, x), opTexts[outer]+parens(text, innerLevel < outerLevel))
						n++
						continue
					}
					left := parens(text, innerLevel < outerLevel || comparison && innerLevel == outerLevel)
					right := parens(text, innerLevel <= outerLevel)
					op := " " + opTexts[outer] + " "
					checkText(t, binary(outer, x, name("r")), left+op+"r")
					checkText(t, binary(outer, name("l"), x), "l"+op+right)
					checkText(t, binary(outer, x, x), left+op+right)
					n += 3
				}
			}
		}
	}
	if n != 13*15*3+2*15 {
		t.Errorf("%d expressions", n)
	}
}

// checkText checks the canonical text of an expression, and that it is read as this expression.
func checkText(t *testing.T, x api.Expr, want string) {
	t.Helper()
	if got := Expr(x); got != want {
		t.Fatalf("Expr(%+v) = %q, want %q", x, got, want)
	}
	if again := readExpr(want); !same(again, x) || !EqualExpr(again, x) {
		t.Fatalf("%q is read as %+v, not as %+v", want, again, x)
	}
}

// P16.1, P16.2: all expressions of up to three levels with a few leaves: all texts are as defined, and all differ.
func TestAllSmallExpressions(t *testing.T) {
	leaves := []api.Expr{num(1), name("a"), read("a")}
	all := leaves
	for range 2 {
		inner := all
		all = leaves
		for _, x := range inner {
			all = append(all, index("a", x), unary(api.OpNeg, x), unary(api.OpNot, x))
			for op := api.OpAdd; op <= api.OpOr; op++ {
				for _, y := range inner {
					all = append(all, binary(op, x, y))
				}
			}
		}
	}
	if n := 3 + 3*129 + 13*129*129; len(all) != n {
		t.Fatalf("%d expressions, want %d", len(all), n)
	}
	texts := map[string]bool{}
	for _, x := range all {
		text := Expr(x)
		if text != exprText(x) || texts[text] {
			t.Fatalf("Expr(%+v) = %q, want %q", x, text, exprText(x))
		}
		texts[text] = true
	}
}

// P16.1: all values of integers.
func TestIntegers(t *testing.T) {
	for n := math.MinInt16; n <= math.MaxInt16; n++ {
		want := ""
		if n >= 0 {
			want = fmt.Sprint(n)
		}
		if got := Expr(num(int16(n))); got != want {
			t.Fatalf("Expr of %d = %q", n, got)
		}
	}
}

// P16.1: Expr of what is not well-formed, for each kind: other fields, other numbers of arguments, other names,
// operators and values.
func TestInvalidExpressions(t *testing.T) {
	a, b, c := name("a"), name("b"), name("c")
	for _, x := range []api.Expr{
		{},
		{Name: "a"}, {Value: 1}, {Kind: -1}, {Kind: 7}, {Kind: 8}, {Kind: 256 + 1}, {Kind: 1<<32 + 1}, {Kind: math.MaxInt}, {Kind: math.MinInt}, {Kind: math.MinInt + 1},
		{Kind: 7, Name: "a"}, {Kind: 7, Op: 3, Args: []api.Expr{a, b}}, {Kind: 0, Op: 1, Args: []api.Expr{a}}, {Kind: -5, Op: 1, Args: []api.Expr{a}},
		// Integers.
		{Kind: 1, Value: -1}, {Kind: 1, Value: math.MinInt16}, {Kind: 1, Value: -32767}, {Kind: 1, Name: "a"}, {Kind: 1, Value: 5, Name: "a"}, {Kind: 1, Name: "if"}, {Kind: 1, Op: 1}, {Kind: 1, Op: 3}, {Kind: 1, Op: -1}, {Kind: 1, Args: []api.Expr{a}}, {Kind: 1, Args: []api.Expr{{}}}, {Kind: 1, Args: []api.Expr{a, b}},
		// Names.
		{Kind: 2}, {Kind: 2, Name: "if"}, {Kind: 2, Name: "1"}, {Kind: 2, Name: "a", Value: 1}, {Kind: 2, Name: "a", Value: -1}, {Kind: 2, Name: "a", Op: 1}, {Kind: 2, Name: "a", Op: -1}, {Kind: 2, Name: "a", Args: []api.Expr{b}}, {Kind: 2, Name: "a", Args: []api.Expr{{}}},
		// Elements.
		{Kind: 3, Args: []api.Expr{a}}, {Kind: 3, Name: "in dex", Args: []api.Expr{a}}, {Kind: 3, Name: "a"}, {Kind: 3, Name: "a", Args: []api.Expr{}}, {Kind: 3, Name: "a", Args: []api.Expr{b, c}}, {Kind: 3, Name: "a", Args: []api.Expr{b}, Value: 1}, {Kind: 3, Name: "a", Args: []api.Expr{b}, Op: 1}, {Kind: 3, Name: "a", Args: []api.Expr{{}}}, {Kind: 3, Name: "a", Args: []api.Expr{num(-1)}},
		// Readings.
		{Kind: 4}, {Kind: 4, Name: "read"}, {Kind: 4, Name: "a", Value: 1}, {Kind: 4, Name: "a", Op: 2}, {Kind: 4, Name: "a", Args: []api.Expr{b}},
		// Unary operators.
		{Kind: 5, Op: 1}, {Kind: 5, Op: 1, Args: []api.Expr{}}, {Kind: 5, Op: 1, Args: []api.Expr{a, b}}, {Kind: 5, Op: 2, Args: []api.Expr{a, b, c}}, {Kind: 5, Args: []api.Expr{a}}, {Kind: 5, Op: 3, Args: []api.Expr{a}}, {Kind: 5, Op: 4, Args: []api.Expr{a}}, {Kind: 5, Op: -1, Args: []api.Expr{a}}, {Kind: 5, Op: 16, Args: []api.Expr{a}}, {Kind: 5, Op: 1<<32 + 1, Args: []api.Expr{a}},
		{Kind: 5, Op: 1, Args: []api.Expr{a}, Name: "a"}, {Kind: 5, Op: 1, Args: []api.Expr{a}, Value: 1}, {Kind: 5, Op: 1, Args: []api.Expr{{}}}, {Kind: 5, Op: 2, Args: []api.Expr{{Kind: 2}}},
		// Binary operators.
		{Kind: 6, Op: 3}, {Kind: 6, Op: 3, Args: []api.Expr{a}}, {Kind: 6, Op: 3, Args: []api.Expr{a, b, c}}, {Kind: 6, Args: []api.Expr{a, b}}, {Kind: 6, Op: 1, Args: []api.Expr{a, b}}, {Kind: 6, Op: 2, Args: []api.Expr{a, b}}, {Kind: 6, Op: 16, Args: []api.Expr{a, b}}, {Kind: 6, Op: 17, Args: []api.Expr{a, b}}, {Kind: 6, Op: -3, Args: []api.Expr{a, b}}, {Kind: 6, Op: math.MaxInt, Args: []api.Expr{a, b}}, {Kind: 6, Op: math.MinInt, Args: []api.Expr{a, b}},
		{Kind: 6, Op: 15, Args: []api.Expr{a, b}, Name: "a"}, {Kind: 6, Op: 3, Args: []api.Expr{a, b}, Value: 1}, {Kind: 6, Op: 3, Args: []api.Expr{a, b}, Value: -1}, {Kind: 6, Op: 3, Args: []api.Expr{{}, b}}, {Kind: 6, Op: 3, Args: []api.Expr{a, {}}}, {Kind: 6, Op: 14, Args: []api.Expr{a, num(-7)}},
	} {
		if got := Expr(x); got != "" || checkExpr(t, x) {
			t.Errorf("Expr(%+v) = %q", x, got)
		}
		if p := tasked(emit(x)); WellFormed(p) || Format(p) != "" {
			t.Errorf("a program with %+v is well-formed", x)
		}
		// Deep inside other expressions.
		for _, around := range []func(api.Expr) api.Expr{
			func(x api.Expr) api.Expr { return unary(api.OpNeg, x) },
			func(x api.Expr) api.Expr { return index("a", x) },
			func(x api.Expr) api.Expr { return binary(api.OpAnd, x, num(1)) },
			func(x api.Expr) api.Expr { return binary(api.OpLe, num(1), x) },
		} {
			if got := Expr(chainOf(9, x, around)); got != "" {
				t.Errorf("Expr of %+v inside other expressions = %q", x, got)
			}
			if got := Expr(chainOf(9, a, around)); got == "" {
				t.Errorf("Expr of a inside other expressions = %q", got)
			}
		}
	}
}

// edges are numbers at and around the ends of what a field may have, and of all integers.
func edges() []int64 {
	return []int64{math.MinInt64, math.MinInt64 + 1, -1 << 32, -1<<32 + 1, -65536, -65535, -32769, -32768, -32767, -2, -1, 0, 1, 2, 3, 4, 5, 6, 7, 8, 9, 10, 11, 12, 13, 14, 15, 16, 17, 255, 256, 257,
		32766, 32767, 32768, 65535, 65536, 65537, 1<<31 - 1, 1 << 31, 1 << 32, 1<<32 + 1, 1<<32 + 3, math.MaxInt64 - 1, math.MaxInt64}
}

// names are identifiers, and texts that are none.
func names() []string {
	l := []string{"", "a", "z", "A", "Z", "_", "0", "9", "a0", "0a", "9z", "_0", "__", "a_b", "aA9_", " ", " a", "a ", "a b", "a-b", "-a", "a-", "a.b", "a\n", "\na", "a\x00", "\x00", "@", "[", "`", "{", "/", ":", "a@", "a[", "a`", "a{", "a/", "a:", "a1[", "é", "aé", "éa", "\xff", "a\xff", "\xffa", "a\x80", "ª", "٣", "a٣", "ａ", "a\u0301", "x.y", "$", "a$", "#"}
	for _, k := range strings.Fields(allKeywords) {
		l = append(l, k, k+"s", k+"_", k+"0", "_"+k, k[1:], k[:len(k)-1], strings.ToUpper(k), strings.ToUpper(k[:1])+k[1:], k[:len(k)-1]+strings.ToUpper(k[len(k)-1:]), k+" ", " "+k, k+k)
	}
	for _, n := range []int{2, 31, 32, 33, 34, 64, 256, 288, 65536 + 32} {
		l = append(l, strings.Repeat("x", n), strings.Repeat("_", n), strings.Repeat("9", n), "A"+strings.Repeat("9", n-1), strings.Repeat("x", n-1)+"-", strings.Repeat("x", n-1)+"\x00")
	}
	return append(l, strings.Repeat("é", 16), "aéa", strings.Repeat("x", 31)+"é")
}

// fewNames are some of them.
func fewNames() []string {
	return []string{"", "a", "_", "x9", "9", "1x", "if", "within", "If", "ifs", "emi", "a b", "a-", "é", "\x00", " a", "a\n", strings.Repeat("x", 31), strings.Repeat("x", 32), strings.Repeat("x", 33)}
}

// P16.1: each expression of the sample with each field set to each edge value.
func TestEveryFieldOfExpressions(t *testing.T) {
	formed, other := 0, 0
	for _, x := range append(everyExpr(), binary(api.OpMul, unary(api.OpNot, index("a", num(1))), binary(api.OpLt, read("s"), name("n")))) {
		for i := range sites(&x) {
			for _, changed := range changes(x, i) {
				if checkExpr(t, changed) {
					formed++
				} else {
					other++
				}
			}
		}
	}
	if formed < 500 || other < 1000 {
		t.Errorf("%d well-formed expressions, %d others", formed, other)
	}
}

// P16.1: each name as an expression, as the name of an array and of a sensor.
func TestNamesInExpressions(t *testing.T) {
	for _, s := range names() {
		ok := isName(s)
		for _, x := range []api.Expr{name(s), read(s), index(s, num(1)), unary(api.OpNot, name(s)), binary(api.OpEq, num(1), read(s)), index("a", index(s, num(1)))} {
			if checkExpr(t, x) != ok {
				t.Errorf("%+v: well-formed is %v", x, !ok)
			}
		}
	}
}

// P16.1, P16.2: random expressions, and random changes of them.
func TestExprAtRandom(t *testing.T) {
	g := generator(1)
	for range 20000 {
		x := g.expr(1 + g.below(7))
		if !checkExpr(t, x) {
			t.Fatalf("%+v is not well-formed", x)
		}
		checkText(t, x, Expr(x))
		y := change(&g, x)
		checkExpr(t, y)
		checkExprs(t, x, y)
	}
}

// checkExprs compares EqualExpr with its definition, and the equality of texts with both.
func checkExprs(t *testing.T, x, y api.Expr) bool {
	t.Helper()
	equal := same(x, y)
	if EqualExpr(x, y) != equal || EqualExpr(y, x) != equal {
		t.Fatalf("EqualExpr = %v and %v of\n%+v and\n%+v", EqualExpr(x, y), EqualExpr(y, x), x, y)
	}
	if a, b := Expr(x), Expr(y); a != "" && b != "" && (a == b) != equal {
		t.Fatalf("%q and %q are the texts of\n%+v and\n%+v", a, b, x, y)
	}
	return equal
}

// P16.1, P16.2: all pairs of some expressions.
func TestPairsOfExpressions(t *testing.T) {
	all := append(everyExpr(), api.Expr{}, api.Expr{Kind: 1, Op: 1}, api.Expr{Kind: 2}, api.Expr{Kind: -1}, name("y"), read("t"), read("x"), index("b", num(2)), index("a", num(3)))
	for op := api.OpNeg; op <= api.OpNot; op++ {
		all = append(all, unary(op, name("v")), unary(op, unary(op, name("u"))))
	}
	for op := api.OpAdd; op <= api.OpOr; op++ {
		all = append(all, binary(op, name("r"), name("l")), binary(op, name("l"), name("l")), binary(op, binary(op, name("l"), name("r")), name("l")), binary(op, name("l"), binary(op, name("r"), name("l"))))
	}
	g := generator(2)
	for range 200 {
		all = append(all, g.expr(1+g.below(3)))
	}
	for i, x := range all {
		for j, y := range all {
			if checkExprs(t, x, y) != same(x, y) || i == j && !EqualExpr(x, y) {
				t.Fatalf("%+v and %+v", x, y)
			}
		}
	}
}
