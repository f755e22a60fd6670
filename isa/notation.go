package isa

import (
	"strconv"
	"strings"

	"trickle/api"
)

const (
	beforeOperands  = " "
	betweenOperands = ", "
	registerPrefix  = "r"
)

// Format returns the assembly notation of an instruction, or an empty string if it is not valid.
func Format(c api.Code) string {
	if !Valid(c) {
		return ""
	}
	o := operationOf(c.Op)
	var operands []string
	for i, r := range registersOf(c) {
		if o.registers().contains(i) {
			operands = append(operands, registerPrefix+strconv.Itoa(r))
		}
	}
	if o.hasImm() {
		operands = append(operands, strconv.Itoa(int(c.Imm)))
	}
	if len(operands) == 0 {
		return o.mnemonic
	}
	return o.mnemonic + beforeOperands + strings.Join(operands, betweenOperands)
}

// Parse returns the valid instruction with a notation. What it reads from other texts, such as "movi r0, +1"
// or "mov r0,r1", is no instruction either, or one with another notation.
func Parse(s string) (api.Code, api.Errno) {
	mnemonic, rest, _ := strings.Cut(s, beforeOperands)
	c := api.Code{Op: named(mnemonic)}
	o := operationOf(c.Op)
	for i, r := range [...]*int{&c.A, &c.B, &c.C} {
		if o.registers().contains(i) {
			var operand string
			operand, rest, _ = strings.Cut(rest, betweenOperands)
			*r = int(number(strings.TrimPrefix(operand, registerPrefix)))
		}
	}
	if o.hasImm() {
		c.Imm = number(rest)
	}
	if !Valid(c) || Format(c) != s {
		return api.Code{}, api.ErrSyntax
	}
	return c, api.OK
}

// named returns the operation with a mnemonic, or 0 if there is none.
func named(mnemonic string) int {
	for op, o := range operations {
		if o.mnemonic == mnemonic {
			return op
		}
	}
	return 0
}

// number returns the word with a text. It needs no error: if the text is no word, the format of the result
// is another text.
func number(text string) int16 {
	n, _ := strconv.ParseInt(text, 10, 16)
	return int16(n)
}
