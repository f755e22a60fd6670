package cpu

import (
	"trickle/api"
	"trickle/word"
)

const wordSize = 2 // bytes

// source tells what an instruction refers to that may be missing although the instruction is valid.
type source int

const (
	nothing      source = iota // its operand is Imm, which is in range
	addressInImm               // Imm, as a data address
	addressInA                 // R[A], as a data address
	addressInB                 // R[B], as a data address
	element                    // element R[B] of the global variable Imm
	sensor                     // Imm, as a sensor
	channel                    // Imm, as a channel
	port                       // Imm, as an output port
)

// instruction is what the valid instructions with one Op have in common.
type instruction struct {
	operand  source
	operator int // of layer 1, if it computes the result
}

// instructions is indexed by Op.
var instructions = [...]instruction{
	api.OpHalt:   {},
	api.OpMovI:   {},
	api.OpMov:    {},
	api.OpNegR:   {operator: api.OpNeg},
	api.OpNotR:   {operator: api.OpNot},
	api.OpAddR:   {operator: api.OpAdd},
	api.OpSubR:   {operator: api.OpSub},
	api.OpMulR:   {operator: api.OpMul},
	api.OpDivR:   {operator: api.OpDiv},
	api.OpModR:   {operator: api.OpMod},
	api.OpEqR:    {operator: api.OpEq},
	api.OpLtR:    {operator: api.OpLt},
	api.OpLeR:    {operator: api.OpLe},
	api.OpLoad:   {operand: addressInImm},
	api.OpStore:  {operand: addressInImm},
	api.OpLoadX:  {operand: addressInB},
	api.OpStoreX: {operand: addressInB},
	api.OpIndex:  {operand: element},
	api.OpSpill:  {},
	api.OpFill:   {},
	api.OpJump:   {},
	api.OpJumpZ:  {},
	api.OpRead:   {operand: sensor},
	api.OpSend:   {operand: channel},
	api.OpEmit:   {},
	api.OpOut:    {operand: port},
	api.OpLog:    {operand: addressInImm},
	api.OpLogX:   {operand: addressInA},
	api.OpCommit: {},
	api.OpNop:    {},
}

// operand returns the operand of a valid instruction, which is Imm or an address, and reports whether it is valid.
// The number of a global variable, sensor, channel or port is not negative, because the instruction is valid.
func (c *CPU) operand(code api.Code, x *api.Image) (int, bool) {
	n := int(code.Imm)
	switch instructions[code.Op].operand {
	case addressInImm:
		return n, isDataAddress(n)
	case addressInA:
		n = int(c.R[code.A])
		return n, isDataAddress(n)
	case addressInB:
		n = int(c.R[code.B])
		return n, isDataAddress(n)
	case element:
		return addressOf(x, n, c.R[code.B])
	case sensor:
		return n, n < x.Sensors
	case channel:
		return n, n < len(x.Channels)
	case port:
		return n, n < x.Outputs
	}
	return n, true
}

// isDataAddress reports whether an integer is the address of a word among the global variables.
func isDataAddress(n int) bool {
	return api.AddrData <= n && n < api.AddrSender && n%wordSize == 0
}

// addressOf returns the address of an element of a global variable, and reports whether the image has both.
func addressOf(x *api.Image, global int, i int16) (int, bool) {
	if global >= len(x.Globals) || global >= len(x.Addr) {
		return 0, false
	}
	place, e := word.Index(i, x.Globals[global].Len)
	return x.Addr[global] + wordSize*place, e == api.OK
}
