// Package word implements 16-bit signed arithmetic (layer 1): see shared/doc/01-word.md.
package word

import (
	"strconv"

	"trickle/api"
)

// Add, Sub and Mul return the result modulo 2^16.
func Add(a, b int16) int16 { return a + b }
func Sub(a, b int16) int16 { return a - b }
func Mul(a, b int16) int16 { return a * b }

// Div returns the truncated quotient, or 0 if b is 0. The language defines -32768 / -1 to wrap to -32768,
// as the promise asks for.
func Div(a, b int16) int16 {
	if b == 0 {
		return 0
	}
	return a / b
}

// Mod returns the remainder with the sign of a, or 0 if b is 0.
func Mod(a, b int16) int16 {
	if b == 0 {
		return 0
	}
	return a % b
}

// Unary applies OpNeg or OpNot.
func Unary(op int, a int16) (int16, api.Errno) {
	switch op {
	case api.OpNeg:
		return -a, api.OK
	case api.OpNot:
		return truth(a == 0), api.OK
	}
	return 0, api.ErrInvalid
}

// Binary applies any binary operator except OpAnd and OpOr: these evaluate their second operand only if
// the first one requires it, so that they are no functions of two words.
func Binary(op int, a, b int16) (int16, api.Errno) {
	switch op {
	case api.OpAdd:
		return Add(a, b), api.OK
	case api.OpSub:
		return Sub(a, b), api.OK
	case api.OpMul:
		return Mul(a, b), api.OK
	case api.OpDiv:
		return Div(a, b), api.OK
	case api.OpMod:
		return Mod(a, b), api.OK
	case api.OpEq:
		return truth(a == b), api.OK
	case api.OpNe:
		return truth(a != b), api.OK
	case api.OpLt:
		return truth(a < b), api.OK
	case api.OpLe:
		return truth(a <= b), api.OK
	case api.OpGt:
		return truth(a > b), api.OK
	case api.OpGe:
		return truth(a >= b), api.OK
	}
	return 0, api.ErrInvalid
}

// truth returns the word that the source language uses for a condition.
func truth(condition bool) int16 {
	if condition {
		return 1
	}
	return 0
}

// Index returns i, as an unsigned number, modulo n.
func Index(i int16, n int) (int, api.Errno) {
	if n < 1 {
		return 0, api.ErrInvalid
	}
	return int(uint16(i)) % n, api.OK
}

// Put returns the two bytes of a word, least significant first.
func Put(a int16) [2]byte {
	u := uint16(a)
	return [2]byte{byte(u), byte(u >> 8)}
}

// Get returns the word of two bytes, least significant first.
func Get(b [2]byte) int16 {
	return int16(uint16(b[0]) | uint16(b[1])<<8)
}

// Format returns a decimal number.
func Format(a int16) string {
	return strconv.Itoa(int(a))
}

// Parse returns the word whose format is s. Numbers that strconv accepts in other spellings, such as "+1",
// "01" and "-0", are no formats: formatting the value again tells them apart.
func Parse(s string) (int16, api.Errno) {
	n, err := strconv.ParseInt(s, 10, 16)
	if err != nil {
		return 0, api.ErrSyntax
	}
	a := int16(n)
	if Format(a) != s {
		return 0, api.ErrSyntax
	}
	return a, api.OK
}
