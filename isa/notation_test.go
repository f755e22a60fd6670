package isa

import (
	"fmt"
	"slices"
	"strings"
	"testing"

	"trickle/api"
)

// sample returns notations of each operation, with short and long numbers.
func sample() []string {
	var l []string
	for _, k := range kinds() {
		for _, imm := range []int{k.lo, 0, 2 * k.step, 4 * k.step, k.hi - k.step, k.hi} {
			if imm >= k.lo && imm <= k.hi {
				c := api.Code{Op: k.op, Imm: int16(imm)}
				for i, field := range k.operands {
					switch field {
					case 'A':
						c.A = i + 7
					case 'B':
						c.B = i
					case 'C':
						c.C = i
					}
				}
				l = append(l, k.notation(c))
			}
		}
	}
	slices.Sort(l)
	return slices.Compact(l)
}

// P11.1: texts that are no notation, by hand.
func TestParseInvalid(t *testing.T) {
	digits := strings.Repeat("9", 1000)
	for _, s := range []string{
		"", " ", ",", ", ", "r", "r0", "0", "-", "\n", "\x00", "\xff", strings.Repeat(" ", 1000), strings.Repeat("halt", 1000),
		// Upper-case letters.
		"HALT", "Halt", "halT", "Movi r0, 1", "MOVI r0, 1", "movi R0, 1", "MOV R0, R1", "mov r0, R1", "ADD r0, r1, r2", "add r0, r1, R2",
		// Spaces that are missing or too many, and other white space.
		"movir0, 1", "movi r0,1", "movi r0 , 1", "movi  r0, 1", "movi r0,  1", " movi r0, 1", "movi r0, 1 ", "movi r 0, 1", "movi r0, - 1", "movi\tr0, 1", "movi r0,\t1", "movi r0, 1\n", "\nmovi r0, 1",
		"movi r0, 1\r\n", "movi r0\n, 1", "movi\nr0, 1", "movi\u00a0r0, 1", "halt ", " halt", "halt\n", "h alt", "nop ", "emit r0 ", "emitr0", "emit  r0", "jump7", "jump  7", "jump 7 ", "add r0,r1,r2", "add r0, r1,r2",
		"add r0,r1, r2", "mov r0,r1", "index r0, r1,3", "log\t2560", "mov r0, r1 ", "add r0,  r1, r2", "add r0, r1,  r2",
		// Commas that are missing, too many or something else.
		"movi r0 1", "mov r0 r1", "add r0 r1 r2", "add r0, r1 r2", "add r0 r1, r2", "movi, r0, 1", "movi r0,, 1", "movi r0, , 1", "movi r0, 1,", "movi r0, 1, ", "movi ,r0, 1", "movi , r0, 1", "mov r0; r1", "mov r0. r1",
		"halt,", "halt, ", "emit r0,", "emit r0, ", "jump 7,", "jump 7, ", "jump , 7", "add r0, r1, r2,", "add r0, r1, r2, ", "add r0, r1,, r2", "movi r0,1, ", "mov r0,r1, r1",
		// Operands that are missing.
		"movi", "movi ", "movi r0", "movi r0,", "movi r0, ", "movi 1", "movi , ", "mov", "mov ", "mov r0", "mov r0,", "mov r0, ", "mov , r0", "add", "add r0", "add r0, r1", "add r0, r1,", "add r0, r1, ", "add , , ", "load r0",
		"load 2560", "index r0, r1", "index r0, 3", "index r1, 3", "emit", "emit ", "jump", "jump ", "jumpz r0", "jumpz 7", "log", "log ", "logx", "logx ", "commit", "commit ", "out r0", "out 1", "read r0", "send r0",
		// Operands that are too many.
		"halt r0", "halt 0", "halt r0, r0", "nop r0", "nop 0", "movi r0, 1, 2", "movi r0, r1, 1", "mov r0, r1, r2", "mov r0, r1, 3", "mov r0, r1, 0", "mov r0, r1, r0", "add r0, r1, r2, r3", "add r0, r1, r2, 0", "emit r0, r1", "emit r0, 0",
		"jump r0, 7", "jump 7, 7", "jump 7, r0", "jumpz r0, r1, 7", "log r0, 2560", "log 2560, 0", "logx r0, 0", "logx r0, 2560", "commit r0, 1", "commit 1, 0", "loadx r0, r1, 0", "storex r0, r1, 2560", "index r0, r1, r2, 3", "halt halt", "halt, halt",
		// Registers instead of numbers, and numbers instead of registers.
		"movi r0, r1", "movi 0, 1", "mov 0, 1", "mov r0, 1", "mov 0, r1", "add r0, r1, 2", "add 0, 1, 2", "load r0, r1", "jump r7", "emit 0", "emit 7", "logx 2560", "log r0", "commit r1", "index r0, 1, 3", "index r0, r1, r3", "jumpz 0, 7", "jumpz r0, r7",
		// Registers that do not exist.
		"movi r8, 1", "movi r9, 1", "movi r10, 1", "movi r16, 1", "movi r256, 1", "movi r65536, 1", "movi r4294967296, 1", "movi r18446744073709551616, 1", "movi r" + digits + ", 1", "mov r8, r0", "mov r0, r8", "add r0, r1, r8", "add r0, r8, r1", "add r8, r0, r1",
		"emit r8", "logx r8", "mov r0, r" + digits, "add r0, r0, r" + digits, "emit r-1", "emit r-0", "emit r+0", "mov r0, r-1", "add r0, r1, r-1", "add r0, r1, r65535", "emit r-8", "emit r65543",
		// Registers written otherwise.
		"movi r00, 1", "movi r01, 1", "movi r007, 1", "mov r0, r01", "add r0, r1, r02", "emit r00", "emit r", "emit r ", "emit rr0", "emit rr", "emit 0r", "emit r0r", "emit r0x0", "emit r1_", "emit r0.0", "emit %r0", "emit $r0", "emit x0", "emit a", "emit sp", "emit (r0)",
		"emit r\u0661", "emit r\uff11", "movi r, 1", "mov r, r", "mov r0, rr1", "emit r" + strings.Repeat("0", 1000),
		// Numbers with leading zeros or signs.
		"movi r0, 01", "movi r0, 00", "movi r0, 000", "movi r0, -01", "movi r0, -00", "movi r0, -0", "movi r0, +0", "movi r0, +1", "movi r0, +-1", "movi r0, -+1", "movi r0, --1", "movi r0, -", "movi r0, +", "movi r0, 1-", "movi r0, " + strings.Repeat("0", 1000),
		"movi r0, " + strings.Repeat("0", 1000) + "1", "movi r0, -" + strings.Repeat("0", 1000), "load r0, 00", "load r0, 02560", "load r0, +2560", "load r0, -0", "store r0, 02560", "store r0, -0", "log 02560", "log +2560", "log -0", "index r0, r1, 03", "index r0, r1, -0",
		"index r0, r1, +3", "spill r0, 00", "spill r0, -0", "fill r0, 01", "fill r0, -0", "jump 07", "jump +7", "jump -0", "jumpz r0, 07", "jumpz r0, -0", "read r0, 00", "read r0, -0", "send r0, +0", "send r0, -0", "out r0, 01", "out r0, -0", "commit 01", "commit +1", "commit -0",
		// Numbers beyond their ranges, and those that are in range modulo a power of two.
		"movi r0, 32768", "movi r0, 65535", "movi r0, 65536", "movi r0, 65537", "movi r0, 100000", "movi r0, 4294967296", "movi r0, 4294967297", "movi r0, 18446744073709551616", "movi r0, 18446744073709551617", "movi r0, " + digits,
		"movi r0, -32769", "movi r0, -65535", "movi r0, -65536", "movi r0, -4294967295", "movi r0, -18446744073709551615", "movi r0, -" + digits,
		"load r0, 1", "load r0, 2561", "load r0, 16383", "load r0, 16384", "load r0, -2", "load r0, 65536", "load r0, 68096", "load r0, " + digits, "store r0, 1", "store r0, 16383", "store r0, 16384", "store r0, -2", "store r0, 65536",
		"log 1", "log 16383", "log 16384", "log -2", "log 65536", "log " + digits, "index r0, r1, 32", "index r0, r1, -1", "index r0, r1, 65536", "index r0, r1, " + digits, "spill r0, 64", "spill r0, -1", "spill r0, 65536", "fill r0, 64", "fill r0, -1",
		"jump 480", "jump -1", "jump 65536", "jump " + digits, "jumpz r0, 480", "jumpz r0, -1", "read r0, 8", "read r0, -1", "send r0, 8", "send r0, -1", "out r0, 8", "out r0, -1", "commit 120", "commit -1", "commit 65536", "commit " + digits,
		// Numbers written otherwise.
		"movi r0, 0x1", "movi r0, 0b1", "movi r0, 0o1", "movi r0, 1_0", "movi r0, 1.0", "movi r0, 1e1", "movi r0, a", "movi r0, #1", "movi r0, $1", "movi r0, '1'", "movi r0, \u0661", "movi r0, \uff11", "movi r0, \u22121", "movi r0, 1h", "movi r0, NaN", "movi r0, nil",
		"load r0, [2560]", "load r0, (2560)", "loadx r0, [r1]", "movi r0, 1 # text", "movi r0, 1; halt",
		// Mnemonics that are unknown, or known in other notations.
		"foo", "foo r0", "foo r0, r1", "hal", "haltx", "halts", "stop", "ret", "mo r0, r1", "movx r0, r1", "move r0, r1", "movii r0, 1", "xor r0, r1, r2", "and r0, r1, r2", "or r0, r1, r2", "ne r0, r1, r2", "gt r0, r1, r2", "ge r0, r1, r2", "addr r0, r1, r2",
		"ld r0, 2560", "st r0, 2560", "loadx r0, 2560", "storex r0, 2560", "load r0, r1", "logz 0", "jumpnz r0, 7", "jmp 7", "output r0, 1", "checkpoint 1", "1", "30", "OpHalt", "ophalt", "2 r0, 1", "r0, 1", " r0, 1", ", 1", "r0 movi, 1", "\u04bbalt", "ha\u0131t", "h\x00alt", "halt\x00", "\ufeffhalt",
	} {
		checkInvalid(t, s)
	}
}

// P11.1: each mnemonic with the operands of every other operation, and without operands.
func TestParseOtherOperands(t *testing.T) {
	for _, k := range kinds() {
		checkParse(t, k.mnemonic)
		checkInvalid(t, k.mnemonic+" ")
		checkInvalid(t, strings.ToUpper(k.mnemonic))
		for _, other := range sample() {
			_, operands, found := strings.Cut(other, " ")
			if found {
				checkParse(t, k.mnemonic+" "+operands)
				checkInvalid(t, strings.ToUpper(k.mnemonic)+" "+operands)
				checkInvalid(t, k.mnemonic+operands)
				checkInvalid(t, operands)
			}
		}
	}
}

// P11.1: every number as Imm, and every register, in range or not.
func TestParseNumbers(t *testing.T) {
	for _, k := range kinds() {
		for _, field := range k.operands {
			written := func(n int) string {
				var operands []string
				for _, other := range k.operands {
					text := map[rune]string{'I': "0", 'A': "r1", 'B': "r2", 'C': "r3"}[other]
					if other == field {
						text = fmt.Sprint(strings.TrimRight(text, "0123456789"), n)
					}
					operands = append(operands, text)
				}
				return k.mnemonic + " " + strings.Join(operands, ", ")
			}
			lo, hi, step := 0, 7, 1
			if field == 'I' {
				lo, hi, step = k.lo, k.hi, k.step
			}
			for n := -33000; n <= 66000; n++ {
				want := lo <= n && n <= hi && n%step == 0
				if n > 700 && n < 16300 && n%97 > 1 || n > 16500 && n < 32600 || n > 33000 && n < 65400 || n < -500 && n > -32700 {
					continue
				}
				if checkParse(t, written(n)) != want {
					t.Fatalf("%q: the catalogue is wrong", written(n))
				}
			}
			for _, n := range integers() {
				checkParse(t, written(n))
			}
		}
	}
}

// P11.1, P11.2: notations with one byte inserted, replaced or left out, and with two bytes swapped.
func TestParseNeighbours(t *testing.T) {
	n := 0
	for _, s := range sample() {
		if !checkParse(t, s) {
			t.Fatalf("%q is not in the catalogue", s)
		}
		for i := range len(s) + 1 {
			for c := range 256 {
				checkParse(t, s[:i]+string([]byte{byte(c)})+s[i:])
				if i < len(s) && checkParse(t, s[:i]+string([]byte{byte(c)})+s[i+1:]) {
					n++
				}
			}
			if i < len(s) {
				checkParse(t, s[:i]+s[i+1:])
				checkParse(t, s[:i])
				checkParse(t, s[i:])
				checkParse(t, s[:i]+s[i:i+1]+s[i:])
				checkParse(t, s[:i]+strings.ToUpper(s[i:i+1])+s[i+1:])
			}
			if i+1 < len(s) {
				checkParse(t, s[:i]+s[i+1:i+2]+s[i:i+1]+s[i+2:])
			}
		}
	}
	if n < 1000 {
		t.Errorf("only %d texts are valid", n)
	}
}

// P11.1, P11.2: each mnemonic with every short tail of characters that occur in notations or look like it.
func TestParseShort(t *testing.T) {
	tails := []string{""}
	for first, n := 0, 0; n < 5; n++ {
		last := len(tails)
		for ; first < last; first++ {
			for _, c := range "r07, -" {
				tails = append(tails, tails[first]+string(c))
			}
		}
	}
	n := 0
	for _, k := range kinds() {
		for _, tail := range tails {
			if checkParse(t, k.mnemonic+tail) {
				n++
			}
			if !checkParse(t, k.mnemonic+" r0"+tail) {
				checkParse(t, k.mnemonic+" r0, r7"+tail)
			}
		}
	}
	if n < 20 {
		t.Errorf("only %d texts are valid", n)
	}
	for _, tail := range tails {
		checkInvalid(t, tail)
	}
}

// token returns a part of a notation, or of a text that looks like one.
func (g *generator) token() string {
	switch g.below(12) {
	case 0:
		return pick(g, kinds()).mnemonic
	case 1:
		return strings.ToUpper(pick(g, kinds()).mnemonic)
	case 2, 3:
		return fmt.Sprint("r", g.below(10))
	case 4:
		return fmt.Sprint(pick(g, words()))
	case 5:
		return fmt.Sprint(pick(g, integers()))
	case 6:
		return fmt.Sprint(g.below(20))
	case 7, 8:
		return ", "
	case 9:
		return " "
	}
	return pick(g, []string{",", "r", "-", "+", "0", "\n", "\t", "", "x"})
}

// P11.1, P11.2: random texts. Format inverts Parse wherever Parse takes a text.
func TestRandomTexts(t *testing.T) {
	g := generator(3)
	notations, accepted, refused := sample(), 0, 0
	for range 300000 {
		var s string
		if g.below(3) > 0 {
			s = pick(&g, kinds()).mnemonic + " "
			for range g.below(5) {
				s += g.token()
			}
		} else {
			s = pick(&g, notations)
			for range g.below(3) {
				i, j := g.below(len(s)+1), g.below(len(s)+1)
				s = s[:min(i, j)] + g.token() + s[max(i, j):]
			}
		}
		if checkParse(t, s) {
			accepted++
		} else {
			refused++
		}
	}
	if accepted < 10000 || refused < 10000 {
		t.Errorf("%d texts are valid and %d are not", accepted, refused)
	}
}

// P1: a long text is no notation.
func TestParseLong(t *testing.T) {
	const n = 1 << 20
	for _, part := range []string{"r", "0", "9", " ", ",", ", ", "r0, ", "movi r0, 1\n", "halt "} {
		long := strings.Repeat(part, n/len(part))
		checkInvalid(t, long)
		checkInvalid(t, "halt"+long)
		checkInvalid(t, "movi "+long)
		checkInvalid(t, "movi r0, "+long)
		checkInvalid(t, "add r0, r1, r2"+long)
		checkInvalid(t, "add r0, r1, "+long)
	}
}
