package word

import (
	"math"
	"strings"
	"testing"

	"trickle/api"
)

// edges are words at which the arithmetic wraps or changes sign.
var edges = []int16{
	-32768, -32767, -32766, -16385, -16384, -257, -256, -255, -182, -181, -129, -128, -127, -11, -10, -9, -7,
	-3, -2, -1, 0, 1, 2, 3, 7, 9, 10, 11, 127, 128, 129, 181, 182, 255, 256, 257, 16383, 16384, 32765, 32766, 32767,
}

// eachWord calls f with all words.
func eachWord(f func(a int16)) {
	for n := math.MinInt16; n <= math.MaxInt16; n++ {
		f(int16(n))
	}
}

// eachPair calls f with all pairs of a word and an edge, in both orders, and with a grid of pairs.
func eachPair(f func(a, b int16)) {
	eachWord(func(a int16) {
		for _, b := range edges {
			f(a, b)
			f(b, a)
		}
	})
	for a := math.MinInt16; a <= math.MaxInt16; a += 97 {
		for b := math.MinInt16; b <= math.MaxInt16; b += 89 {
			f(int16(a), int16(b))
		}
	}
}

// wrap returns the word that is congruent to n modulo 2^16, by the definition of congruence.
func wrap(n int64) int16 {
	r := n % 65536
	if r < -32768 {
		r += 65536
	}
	if r > 32767 {
		r -= 65536
	}
	return int16(r)
}

// abs returns the absolute value, which need not be a word.
func abs(n int64) int64 {
	if n < 0 {
		return -n
	}
	return n
}

// quotient returns the exact quotient truncated toward zero, computed with absolute values only.
func quotient(a, b int64) int64 {
	q := abs(a) / abs(b)
	if (a < 0) != (b < 0) {
		return -q
	}
	return q
}

// P1.1: sums, differences and products are exact results modulo 2^16.
func TestAddSubMulWrap(t *testing.T) {
	eachPair(func(a, b int16) {
		x, y := int64(a), int64(b)
		if v := Add(a, b); v != wrap(x+y) {
			t.Fatalf("Add(%d, %d) = %d", a, b, v)
		}
		if v := Sub(a, b); v != wrap(x-y) {
			t.Fatalf("Sub(%d, %d) = %d", a, b, v)
		}
		if v := Mul(a, b); v != wrap(x*y) {
			t.Fatalf("Mul(%d, %d) = %d", a, b, v)
		}
	})
}

// P1.1: quotients are truncated, remainders have the sign of the dividend, and a zero divisor gives 0.
func TestDivMod(t *testing.T) {
	eachPair(func(a, b int16) {
		var q, r int16
		if b != 0 {
			exact := quotient(int64(a), int64(b))
			q, r = wrap(exact), wrap(int64(a)-int64(b)*exact)
		}
		if v := Div(a, b); v != q {
			t.Fatalf("Div(%d, %d) = %d, want %d", a, b, v, q)
		}
		v := Mod(a, b)
		if v != r {
			t.Fatalf("Mod(%d, %d) = %d, want %d", a, b, v, r)
		}
		if v != 0 && (v < 0) != (a < 0) {
			t.Fatalf("Mod(%d, %d) = %d has the wrong sign", a, b, v)
		}
	})
}

// P1.1: the chapter's examples, and the pairs whose results are easiest to get wrong.
func TestArithmeticExamples(t *testing.T) {
	for _, x := range []struct {
		name    string
		f       func(a, b int16) int16
		a, b, v int16
	}{
		{"Add", Add, 32767, 1, -32768},
		{"Add", Add, -32768, -32768, 0},
		{"Sub", Sub, -32768, 1, 32767},
		{"Sub", Sub, 0, -32768, -32768},
		{"Mul", Mul, -32768, -1, -32768},
		{"Mul", Mul, 256, 256, 0},
		{"Mul", Mul, 300, 300, 24464},
		{"Div", Div, -7, 2, -3},
		{"Div", Div, 7, -2, -3},
		{"Div", Div, -7, -2, 3},
		{"Div", Div, -32768, -1, -32768},
		{"Div", Div, 5, 0, 0},
		{"Div", Div, -32768, 0, 0},
		{"Div", Div, 0, 0, 0},
		{"Mod", Mod, -7, 2, -1},
		{"Mod", Mod, 7, -2, 1},
		{"Mod", Mod, -7, -2, -1},
		{"Mod", Mod, -32768, -1, 0},
		{"Mod", Mod, 5, 0, 0},
		{"Mod", Mod, -5, 0, 0},
		{"Mod", Mod, 32767, -32768, 32767},
	} {
		if v := x.f(x.a, x.b); v != x.v {
			t.Errorf("%s(%d, %d) = %d, want %d", x.name, x.a, x.b, v, x.v)
		}
	}
}

// flag returns 1 for true and 0 for false.
func flag(b bool) int16 {
	if b {
		return 1
	}
	return 0
}

// P1.2: Unary negates modulo 2^16 or tests for zero.
func TestUnary(t *testing.T) {
	eachWord(func(a int16) {
		if v, e := Unary(api.OpNeg, a); v != wrap(-int64(a)) || e != api.OK {
			t.Fatalf("Unary(OpNeg, %d) = %d, %d", a, v, e)
		}
		if v, e := Unary(api.OpNot, a); v != flag(a == 0) || e != api.OK {
			t.Fatalf("Unary(OpNot, %d) = %d, %d", a, v, e)
		}
	})
}

// P1.2: the arithmetic operators of Binary are the functions of the same names.
func TestBinaryArithmetic(t *testing.T) {
	functions := map[int]func(a, b int16) int16{
		api.OpAdd: Add, api.OpSub: Sub, api.OpMul: Mul, api.OpDiv: Div, api.OpMod: Mod,
	}
	for op, f := range functions {
		for _, a := range edges {
			for _, b := range edges {
				if v, e := Binary(op, a, b); v != f(a, b) || e != api.OK {
					t.Fatalf("Binary(%d, %d, %d) = %d, %d", op, a, b, v, e)
				}
			}
		}
	}
}

// P1.2: the comparisons of Binary yield 1 or 0, as signed comparisons.
func TestBinaryComparison(t *testing.T) {
	for _, a := range edges {
		for _, b := range edges {
			x, y := int(a), int(b)
			for op, want := range map[int]bool{
				api.OpEq: x == y, api.OpNe: x != y, api.OpLt: x < y, api.OpLe: x <= y, api.OpGt: x > y, api.OpGe: x >= y,
			} {
				if v, e := Binary(op, a, b); v != flag(want) || e != api.OK {
					t.Fatalf("Binary(%d, %d, %d) = %d, %d", op, a, b, v, e)
				}
			}
		}
	}
}

// P1.2: every other operator is an error with a zero value, also OpAnd and OpOr, and the operators of the
// other function.
func TestUnknownOperators(t *testing.T) {
	operators := []int{math.MinInt, math.MinInt32, -1, 0, 16, 17, 65536 + api.OpNeg, 65536 + api.OpAdd, math.MaxInt32, math.MaxInt}
	for op := -300; op <= 300; op++ {
		operators = append(operators, op)
	}
	for _, op := range operators {
		for _, a := range edges {
			if op != api.OpNeg && op != api.OpNot {
				if v, e := Unary(op, a); v != 0 || e != api.ErrInvalid {
					t.Fatalf("Unary(%d, %d) = %d, %d", op, a, v, e)
				}
			}
			if op < api.OpAdd || op > api.OpGe {
				if v, e := Binary(op, a, 3); v != 0 || e != api.ErrInvalid {
					t.Fatalf("Binary(%d, %d, 3) = %d, %d", op, a, v, e)
				}
			}
		}
	}
}

// P1.3: an index is the unsigned word modulo the length.
func TestIndex(t *testing.T) {
	for _, n := range []int{1, 2, 3, 7, 10, 63, api.MaxArray, 255, 256, 32767, 32768, 32769, 65535, 65536, 65537, math.MaxInt32, math.MaxInt} {
		eachWord(func(i int16) {
			unsigned := int(i)
			if unsigned < 0 {
				unsigned += 65536
			}
			if v, e := Index(i, n); v != unsigned%n || e != api.OK {
				t.Fatalf("Index(%d, %d) = %d, %d", i, n, v, e)
			}
		})
	}
	if v, e := Index(-1, 10); v != 5 || e != api.OK {
		t.Errorf("Index(-1, 10) = %d, %d", v, e)
	}
}

// P1.3: a length below 1 is an error.
func TestIndexInvalidLength(t *testing.T) {
	for _, n := range []int{0, -1, -2, -10, -65536, math.MinInt32, math.MinInt} {
		for _, i := range edges {
			if v, e := Index(i, n); v != 0 || e != api.ErrInvalid {
				t.Fatalf("Index(%d, %d) = %d, %d", i, n, v, e)
			}
		}
	}
}

// P1.4: the bytes of a word are those of its unsigned value, least significant first.
func TestPut(t *testing.T) {
	eachWord(func(a int16) {
		unsigned := int(a)
		if unsigned < 0 {
			unsigned += 65536
		}
		if b := Put(a); int(b[0]) != unsigned%256 || int(b[1]) != unsigned/256 {
			t.Fatalf("Put(%d) = %v", a, b)
		}
	})
	for _, x := range []struct {
		a int16
		b [2]byte
	}{{0, [2]byte{0, 0}}, {1, [2]byte{1, 0}}, {256, [2]byte{0, 1}}, {0x1234, [2]byte{0x34, 0x12}}, {-1, [2]byte{255, 255}}, {-2, [2]byte{254, 255}}, {-32768, [2]byte{0, 128}}} {
		if b := Put(x.a); b != x.b {
			t.Errorf("Put(%d) = %v, want %v", x.a, b, x.b)
		}
	}
}

// P1.4: Get and Put are inverses of each other.
func TestGet(t *testing.T) {
	eachWord(func(a int16) {
		if v := Get(Put(a)); v != a {
			t.Fatalf("Get(Put(%d)) = %d", a, v)
		}
	})
	for low := range 256 {
		for high := range 256 {
			b := [2]byte{byte(low), byte(high)}
			if v := Put(Get(b)); v != b {
				t.Fatalf("Put(Get(%v)) = %v", b, v)
			}
		}
	}
}

// decimal formats a number digit by digit.
func decimal(n int) string {
	if n < 0 {
		return "-" + decimal(-n)
	}
	digit := string(rune('0' + n%10))
	if n < 10 {
		return digit
	}
	return decimal(n/10) + digit
}

// P1.5: the format of a word is its decimal number, and Parse is its inverse.
func TestFormatAndParse(t *testing.T) {
	eachWord(func(a int16) {
		s := Format(a)
		if s != decimal(int(a)) {
			t.Fatalf("Format(%d) = %q", a, s)
		}
		if v, e := Parse(s); v != a || e != api.OK {
			t.Fatalf("Parse(%q) = %d, %d", s, v, e)
		}
	})
}

// P1.5: a string that is the format of no word is an error.
func TestParseInvalid(t *testing.T) {
	invalid := []string{
		"", "-", "+", "--1", "+-1", "-+1", "+0", "+1", "-0", "00", "01", "-01", "007", "000000", " ", " 1", "1 ", "1 2",
		"\t1", "1\n", "1\x00", "\x001", "32768", "-32769", "65535", "65536", "65537", "-65536", "99999", "100000", "-100000",
		"99999999", "2147483648", "4294967296", "9223372036854775808", "18446744073709551616", "18446744073709551617",
		"1e3", "1.0", ".5", "0x1", "0x10", "0b1", "0o7", "1_0", "1,000", "a", "12a", "a12", "1-", "1-2", "\u0661", "\uff11", "\u22121", "\xff",
		strings.Repeat("0", 1000) + "1", strings.Repeat("9", 1000), "-" + strings.Repeat("9", 1000),
	}
	for _, s := range invalid {
		if v, e := Parse(s); v != 0 || e != api.ErrSyntax {
			t.Errorf("Parse(%q) = %d, %d", s, v, e)
		}
	}
}

// P1.5: a number outside the range is an error, as is a word with a character before or after it.
func TestParseNeighbours(t *testing.T) {
	for n := 32768; n <= 70000; n++ {
		for _, s := range []string{decimal(n), decimal(-n - 1)} {
			if v, e := Parse(s); v != 0 || e != api.ErrSyntax {
				t.Fatalf("Parse(%q) = %d, %d", s, v, e)
			}
		}
	}
	for c := range 256 {
		// A digit or a sign may lead to another word; a byte of any other kind never does.
		if c >= '0' && c <= '9' || c == '-' {
			continue
		}
		character := string([]byte{byte(c)})
		for _, s := range []string{character, character + "12", "1" + character + "2", "12" + character, "-" + character + "12"} {
			if v, e := Parse(s); v != 0 || e != api.ErrSyntax {
				t.Fatalf("Parse(%q) = %d, %d", s, v, e)
			}
		}
	}
}

// P1.6: quotient and remainder give the dividend again, and the remainder is smaller than the divisor.
func TestDivisionIdentity(t *testing.T) {
	eachPair(func(a, b int16) {
		if b == 0 {
			return
		}
		if v := Add(Mul(Div(a, b), b), Mod(a, b)); v != a {
			t.Fatalf("Div(%d, %d)*%d + Mod(%d, %d) = %d", a, b, b, a, b, v)
		}
		if r := int64(Mod(a, b)); abs(r) >= abs(int64(b)) {
			t.Fatalf("Mod(%d, %d) = %d is not smaller than the divisor", a, b, r)
		}
	})
}
