package isa

import (
	"fmt"
	"math"
	"strings"
	"sync"
	"testing"

	"trickle/api"
)

// kind is a row of the chapter's table of instructions, with its numbers written out.
type kind struct {
	op       int
	mnemonic string
	operands string // the fields, in order, with I for Imm
	lo, hi   int    // the range of Imm
	step     int    // between two values of Imm
	reads    string // the fields with registers
	writes   string
}

// kinds returns the rows of the table. They are never changed.
var kinds = sync.OnceValue(func() []kind {
	return []kind{
		{1, "halt", "", 0, 0, 1, "", ""},
		{2, "movi", "AI", -32768, 32767, 1, "", "A"},
		{3, "mov", "AB", 0, 0, 1, "B", "A"},
		{4, "neg", "AB", 0, 0, 1, "B", "A"},
		{5, "not", "AB", 0, 0, 1, "B", "A"},
		{6, "add", "ABC", 0, 0, 1, "BC", "A"},
		{7, "sub", "ABC", 0, 0, 1, "BC", "A"},
		{8, "mul", "ABC", 0, 0, 1, "BC", "A"},
		{9, "div", "ABC", 0, 0, 1, "BC", "A"},
		{10, "mod", "ABC", 0, 0, 1, "BC", "A"},
		{11, "eq", "ABC", 0, 0, 1, "BC", "A"},
		{12, "lt", "ABC", 0, 0, 1, "BC", "A"},
		{13, "le", "ABC", 0, 0, 1, "BC", "A"},
		{14, "load", "AI", 0, 16382, 2, "", "A"},
		{15, "store", "AI", 0, 16382, 2, "A", ""},
		{16, "loadx", "AB", 0, 0, 1, "B", "A"},
		{17, "storex", "AB", 0, 0, 1, "AB", ""},
		{18, "index", "ABI", 0, 31, 1, "B", "A"},
		{19, "spill", "AI", 0, 63, 1, "A", ""},
		{20, "fill", "AI", 0, 63, 1, "", "A"},
		{21, "jump", "I", 0, 479, 1, "", ""},
		{22, "jumpz", "AI", 0, 479, 1, "A", ""},
		{23, "read", "AI", 0, 7, 1, "", "A"},
		{24, "send", "AI", 0, 7, 1, "A", ""},
		{25, "emit", "A", 0, 0, 1, "A", ""},
		{26, "out", "AI", 0, 7, 1, "A", ""},
		{27, "log", "I", 0, 16382, 2, "", ""},
		{28, "logx", "A", 0, 0, 1, "A", ""},
		{29, "commit", "I", 0, 119, 1, "", ""},
		{30, "nop", "", 0, 0, 1, "", ""},
	}
})

// has reports whether a field is an operand.
func (k kind) has(field string) bool { return strings.Contains(k.operands, field) }

// count returns how many instructions of a kind are valid.
func (k kind) count() int {
	n := (k.hi-k.lo)/k.step + 1
	for _, field := range k.operands {
		if field != 'I' {
			n *= 8
		}
	}
	return n
}

// each calls a function with each valid instruction of a kind.
func (k kind) each(f func(api.Code)) {
	most := func(field string) int {
		if k.has(field) {
			return 7
		}
		return 0
	}
	for a := 0; a <= most("A"); a++ {
		for b := 0; b <= most("B"); b++ {
			for c := 0; c <= most("C"); c++ {
				for imm := k.lo; imm <= k.hi; imm += k.step {
					f(api.Code{Op: k.op, A: a, B: b, C: c, Imm: int16(imm)})
				}
			}
		}
	}
}

// notation is the definition of Format.
func (k kind) notation(c api.Code) string {
	s := k.mnemonic
	for i, field := range k.operands {
		if i == 0 {
			s += " "
		} else {
			s += ", "
		}
		switch field {
		case 'A':
			s += fmt.Sprint("r", c.A)
		case 'B':
			s += fmt.Sprint("r", c.B)
		case 'C':
			s += fmt.Sprint("r", c.C)
		case 'I':
			s += fmt.Sprint(c.Imm)
		}
	}
	return s
}

// encoding is the definition of Encode.
func (k kind) encoding(c api.Code) [4]byte {
	last := int(c.Imm)
	if k.has("C") {
		last = c.C
	}
	if last < 0 {
		last += 65536
	}
	return [4]byte{byte(k.op), byte(c.A + 16*c.B), byte(last % 256), byte(last / 256)}
}

// registersIn returns the registers in some fields of an instruction.
func registersIn(c api.Code, fields string) map[int]bool {
	set := map[int]bool{}
	for _, field := range fields {
		set[map[rune]int{'A': c.A, 'B': c.B, 'C': c.C}[field]] = true
	}
	return set
}

// catalogue contains all valid instructions.
type catalogue struct {
	codes     []api.Code
	encodings map[[4]byte]api.Code
	notations map[string]api.Code
}

// known returns the catalogue. It is never changed.
var known = sync.OnceValue(func() catalogue {
	const size = 750000
	all := catalogue{make([]api.Code, 0, size), make(map[[4]byte]api.Code, size), make(map[string]api.Code, size)}
	for _, k := range kinds() {
		k.each(func(c api.Code) {
			all.codes = append(all.codes, c)
			all.encodings[k.encoding(c)] = c
			all.notations[k.notation(c)] = c
		})
	}
	return all
})

// kindOf returns the kind of an instruction, or one without a mnemonic.
func kindOf(c api.Code) kind {
	for _, k := range kinds() {
		if k.op == c.Op {
			return k
		}
	}
	return kind{}
}

// valid is the definition of Valid.
func valid(c api.Code) bool {
	k := kindOf(c)
	for i, r := range []int{c.A, c.B, c.C} {
		if operand := k.has("ABC"[i : i+1]); operand && (r < 0 || r > 7) || !operand && r != 0 {
			return false
		}
	}
	imm := int(c.Imm)
	return k.mnemonic != "" && imm >= k.lo && imm <= k.hi && (imm-k.lo)%k.step == 0
}

// generator makes numbers that follow no simple rule. Its value is never 0.
type generator uint64

// below returns a number from 0 to n-1.
func (g *generator) below(n int) int {
	*g ^= *g << 13
	*g ^= *g >> 7
	*g ^= *g << 17
	return int((uint64(*g) >> 20) % uint64(n))
}

// pick returns one of some values.
func pick[T any](g *generator, l []T) T { return l[g.below(len(l))] }

// code returns an instruction most of whose fields fit its operation.
func (g *generator) code() api.Code {
	k := pick(g, kinds())
	c := api.Code{Op: k.op, Imm: int16(k.lo + k.step*g.below((k.hi-k.lo)/k.step+1))}
	for field, r := range map[string]*int{"A": &c.A, "B": &c.B, "C": &c.C} {
		if k.has(field) {
			*r = g.below(8)
		}
	}
	switch g.below(8) {
	case 0:
		c.Op = pick(g, integers())
	case 1:
		*pick(g, []*int{&c.A, &c.B, &c.C}) = pick(g, integers())
	case 2:
		c.Imm = int16(g.below(65536) - 32768)
	}
	return c
}

// integers are those at the ends of every range, those that are in range modulo a power of two, and the least and
// the greatest ones.
func integers() []int {
	return []int{
		math.MinInt, math.MinInt + 1, -1 << 32, math.MinInt32, -65536, -32768, -256, -128, -16, -8, -7, -2, -1,
		0, 1, 2, 6, 7, 8, 9, 15, 16, 17, 23, 30, 31, 32, 127, 128, 255, 256, 257, 258, 479, 480, 32767, 32768, 65535, 65536, 65537,
		math.MaxInt32, 1 << 32, 1<<32 + 1, 1<<62 + 3, math.MaxInt - 1, math.MaxInt,
	}
}

// words are those at the ends of every range and around them.
func words() []int16 {
	var l []int16
	for _, n := range []int{-32768, -16384, -512, -256, 0, 8, 16, 32, 64, 120, 128, 256, 480, 512, 2560, 16384, 32767} {
		for d := -2; d <= 2; d++ {
			if n+d == int(int16(n+d)) {
				l = append(l, int16(n+d))
			}
		}
	}
	return l
}

// checkCode compares every function of an instruction with its definition.
func checkCode(t *testing.T, c api.Code) (ok bool) {
	t.Helper()
	ok = valid(c)
	if got := Valid(c); got != ok {
		t.Fatalf("Valid(%v) = %v", c, got)
	}
	bytes, e := Encode(c)
	notation := Format(c)
	next, reads, writes := Next(c, 100), Reads(c), Writes(c)
	if !ok {
		if bytes != [4]byte{} || e != api.ErrInvalid {
			t.Fatalf("Encode(%v) = % x, %d", c, bytes, e)
		}
		if notation != "" {
			t.Fatalf("Format(%v) = %q", c, notation)
		}
		if next != nil || reads != nil || writes != nil {
			t.Fatalf("%v: %v follow, it reads %v and writes %v", c, next, reads, writes)
		}
		return false
	}
	k := kindOf(c)
	if want := k.encoding(c); bytes != want || e != api.OK {
		t.Fatalf("Encode(%v) = % x, %d, want % x", c, bytes, e, want)
	}
	if want := k.notation(c); notation != want {
		t.Fatalf("Format(%v) = %q, want %q", c, notation, want)
	}
	checkSet(t, c, "addresses that follow", next, followers(c, 100))
	checkSet(t, c, "registers that it reads", reads, registersIn(c, k.reads))
	checkSet(t, c, "registers that it writes", writes, registersIn(c, k.writes))
	return true
}

// checkSet tests that a list contains exactly the numbers of a set, in ascending order and without duplicates.
func checkSet(t *testing.T, c api.Code, what string, l []int, set map[int]bool) {
	t.Helper()
	for i, n := range l {
		if !set[n] || i > 0 && l[i-1] >= n {
			t.Fatalf("%v: the %s are %v, want %v", c, what, l, set)
		}
	}
	if len(l) != len(set) {
		t.Fatalf("%v: the %s are %v, want %v", c, what, l, set)
	}
}

// followers is the definition of Next for a valid instruction and an address in range.
func followers(c api.Code, pc int) map[int]bool {
	set := map[int]bool{}
	if name := kindOf(c).mnemonic; name != "halt" && name != "jump" {
		set[pc+1] = true
	}
	if c.Op == 21 || c.Op == 22 {
		set[int(c.Imm)] = true
	}
	return set
}

// checkDecode compares Decode of any bytes with the catalogue, and Encode with the bytes.
func checkDecode(t *testing.T, b [4]byte) (ok bool) {
	t.Helper()
	want, ok := known().encodings[b]
	got, e := Decode(b)
	if !ok {
		if got != (api.Code{}) || e != api.ErrSyntax {
			t.Fatalf("Decode(% x) = %v, %d", b, got, e)
		}
		return false
	}
	if got != want || e != api.OK {
		t.Fatalf("Decode(% x) = %v, %d, want %v", b, got, e, want)
	}
	if again, e := Encode(got); again != b || e != api.OK {
		t.Fatalf("% x becomes % x, %d", b, again, e)
	}
	return true
}

// checkParse compares Parse of any text with the catalogue, and Format with the text.
func checkParse(t *testing.T, s string) (ok bool) {
	t.Helper()
	want, ok := known().notations[s]
	got, e := Parse(s)
	if !ok {
		if got != (api.Code{}) || e != api.ErrSyntax {
			t.Fatalf("Parse(%q) = %v, %d", s, got, e)
		}
		return false
	}
	if got != want || e != api.OK {
		t.Fatalf("Parse(%q) = %v, %d, want %v", s, got, e, want)
	}
	if again := Format(got); again != s {
		t.Fatalf("%q becomes %q", s, again)
	}
	return true
}

// checkInvalid tests that a text is no notation.
func checkInvalid(t *testing.T, s string) {
	t.Helper()
	if checkParse(t, s) {
		t.Fatalf("%q is in the catalogue", s)
	}
}
