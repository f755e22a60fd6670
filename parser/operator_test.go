package parser

import (
	"math"
	"strings"
	"testing"

	"trickle/api"
)

// P17.3: the precedence of every operator, by name.
func TestPrecedenceOfOperators(t *testing.T) {
	want := map[int]int{
		api.OpOr: 1, api.OpAnd: 2,
		api.OpEq: 3, api.OpNe: 3, api.OpLt: 3, api.OpLe: 3, api.OpGt: 3, api.OpGe: 3,
		api.OpAdd: 4, api.OpSub: 4, api.OpMul: 5, api.OpDiv: 5, api.OpMod: 5,
		api.OpNeg: 0, api.OpNot: 0,
	}
	for op, level := range want {
		if got := Precedence(op); got != level {
			t.Errorf("Precedence(%d) = %d, not %d", op, got, level)
		}
	}
}

// P17.3, P1: numbers that are no operator, next to them and far from them.
func TestPrecedenceOfOthers(t *testing.T) {
	for _, op := range []int{math.MinInt, math.MinInt + 1, math.MinInt32, -1 << 16, math.MaxInt32, 1 << 32, 1<<32 + 3, math.MaxInt - 1, math.MaxInt} {
		if got := Precedence(op); got != 0 {
			t.Errorf("Precedence(%d) = %d", op, got)
		}
	}
	for op := -1000; op <= 1000; op++ {
		want := 0
		if op >= 3 && op <= 15 {
			want = opLevels[op]
		}
		if got := Precedence(op); got != want {
			t.Errorf("Precedence(%d) = %d, not %d", op, got, want)
		}
	}
}

// operatorOf is the definition of Operator.
func operatorOf(text string) (int, bool) {
	for op := 3; op <= 15; op++ {
		if opTexts[op] == text {
			return op, true
		}
	}
	return 0, false
}

func checkOperator(t *testing.T, text string) {
	t.Helper()
	op, ok := Operator(text)
	want, found := operatorOf(text)
	if op != want || ok != found {
		t.Errorf("Operator(%q) = %d, %t, not %d, %t", text, op, ok, want, found)
	}
}

// P17.3: the operator of every text, by name.
func TestOperatorOfTexts(t *testing.T) {
	want := map[string]int{
		"+": api.OpAdd, "-": api.OpSub, "*": api.OpMul, "/": api.OpDiv, "%": api.OpMod, "==": api.OpEq, "!=": api.OpNe,
		"<": api.OpLt, "<=": api.OpLe, ">": api.OpGt, ">=": api.OpGe, "&&": api.OpAnd, "||": api.OpOr,
	}
	for text, op := range want {
		if got, ok := Operator(text); got != op || !ok {
			t.Errorf("Operator(%q) = %d, %t, not %d", text, got, ok, op)
		}
	}
}

// P17.3, P1: texts that are no binary operator: the empty one, a unary one, other tokens, and texts with a byte more
// or less.
func TestOperatorOfOthers(t *testing.T) {
	for _, text := range append(vocabulary(), "", " ", "!", "=", "&", "|", "neg", "\x00", "ä", strings.Repeat("+", 1<<20)) {
		checkOperator(t, text)
	}
	for b := range 256 {
		checkOperator(t, string([]byte{byte(b)}))
		for c := range 256 {
			checkOperator(t, string([]byte{byte(b), byte(c)}))
		}
		for _, text := range opTexts {
			for i := range len(text) + 1 {
				checkOperator(t, text[:i]+string([]byte{byte(b)})+text[i:])
			}
		}
	}
	for _, text := range opTexts {
		for i := range len(text) {
			checkOperator(t, text[:i]+text[i+1:])
		}
	}
}

// P17.3: each function leads back to the other one.
func TestOperatorsHavePrecedences(t *testing.T) {
	found := map[int]bool{}
	for _, text := range strings.Fields(marks) {
		op, ok := Operator(text)
		if ok != (Precedence(op) > 0) {
			t.Errorf("Operator(%q) = %d, %t with precedence %d", text, op, ok, Precedence(op))
		}
		found[op] = true
	}
	for op := -20; op <= 40; op++ {
		if (Precedence(op) > 0) != (op > 0 && found[op]) {
			t.Errorf("operator %d has precedence %d but no text", op, Precedence(op))
		}
	}
}
