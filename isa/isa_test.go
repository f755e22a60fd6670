package isa

import (
	"math"
	"slices"
	"testing"

	"trickle/api"
)

// P11.1, P11.2: the chapter's example.
func TestExample(t *testing.T) {
	c := api.Code{Op: api.OpStore, A: 1, Imm: 2560}
	b := [4]byte{0x0F, 0x01, 0x00, 0x0A}
	const s = "store r1, 2560"
	if !Valid(c) {
		t.Error("it is not valid")
	}
	if got, e := Encode(c); got != b || e != api.OK {
		t.Errorf("Encode = % x, %d", got, e)
	}
	if got, e := Decode(b); got != c || e != api.OK {
		t.Errorf("Decode = %v, %d", got, e)
	}
	if got := Format(c); got != s {
		t.Errorf("Format = %q", got)
	}
	if got, e := Parse(s); got != c || e != api.OK {
		t.Errorf("Parse = %v, %d", got, e)
	}
}

// byHand is an instruction with everything that the chapter says of it.
type byHand struct {
	code          api.Code
	bytes         [4]byte
	notation      string
	next          []int // after address 40
	reads, writes []int
}

// worked returns one instruction for each operation, worked out by hand.
func worked() []byHand {
	return []byHand{
		{api.Code{Op: api.OpHalt}, [4]byte{1, 0, 0, 0}, "halt", nil, nil, nil},
		{api.Code{Op: api.OpMovI, A: 3, Imm: -2}, [4]byte{2, 3, 0xFE, 0xFF}, "movi r3, -2", []int{41}, nil, []int{3}},
		{api.Code{Op: api.OpMov, A: 7, B: 1}, [4]byte{3, 0x17, 0, 0}, "mov r7, r1", []int{41}, []int{1}, []int{7}},
		{api.Code{Op: api.OpNegR, A: 0, B: 7}, [4]byte{4, 0x70, 0, 0}, "neg r0, r7", []int{41}, []int{7}, []int{0}},
		{api.Code{Op: api.OpNotR, A: 5, B: 5}, [4]byte{5, 0x55, 0, 0}, "not r5, r5", []int{41}, []int{5}, []int{5}},
		{api.Code{Op: api.OpAddR, A: 1, B: 2, C: 3}, [4]byte{6, 0x21, 3, 0}, "add r1, r2, r3", []int{41}, []int{2, 3}, []int{1}},
		{api.Code{Op: api.OpSubR, A: 1, B: 3, C: 2}, [4]byte{7, 0x31, 2, 0}, "sub r1, r3, r2", []int{41}, []int{2, 3}, []int{1}},
		{api.Code{Op: api.OpMulR, A: 4, B: 6, C: 6}, [4]byte{8, 0x64, 6, 0}, "mul r4, r6, r6", []int{41}, []int{6}, []int{4}},
		{api.Code{Op: api.OpDivR, A: 7, B: 7, C: 0}, [4]byte{9, 0x77, 0, 0}, "div r7, r7, r0", []int{41}, []int{0, 7}, []int{7}},
		{api.Code{Op: api.OpModR, A: 0, B: 1, C: 7}, [4]byte{10, 0x10, 7, 0}, "mod r0, r1, r7", []int{41}, []int{1, 7}, []int{0}},
		{api.Code{Op: api.OpEqR, A: 0, B: 0, C: 0}, [4]byte{11, 0, 0, 0}, "eq r0, r0, r0", []int{41}, []int{0}, []int{0}},
		{api.Code{Op: api.OpLtR, A: 2, B: 4, C: 1}, [4]byte{12, 0x42, 1, 0}, "lt r2, r4, r1", []int{41}, []int{1, 4}, []int{2}},
		{api.Code{Op: api.OpLeR, A: 6, B: 5, C: 4}, [4]byte{13, 0x56, 4, 0}, "le r6, r5, r4", []int{41}, []int{4, 5}, []int{6}},
		{api.Code{Op: api.OpLoad, A: 2, Imm: 16382}, [4]byte{14, 2, 0xFE, 0x3F}, "load r2, 16382", []int{41}, nil, []int{2}},
		{api.Code{Op: api.OpStore, A: 6, Imm: 258}, [4]byte{15, 6, 2, 1}, "store r6, 258", []int{41}, []int{6}, nil},
		{api.Code{Op: api.OpLoadX, A: 6, B: 2}, [4]byte{16, 0x26, 0, 0}, "loadx r6, r2", []int{41}, []int{2}, []int{6}},
		{api.Code{Op: api.OpStoreX, A: 6, B: 2}, [4]byte{17, 0x26, 0, 0}, "storex r6, r2", []int{41}, []int{2, 6}, nil},
		{api.Code{Op: api.OpIndex, A: 6, B: 3, Imm: 31}, [4]byte{18, 0x36, 31, 0}, "index r6, r3, 31", []int{41}, []int{3}, []int{6}},
		{api.Code{Op: api.OpSpill, A: 6, Imm: 63}, [4]byte{19, 6, 63, 0}, "spill r6, 63", []int{41}, []int{6}, nil},
		{api.Code{Op: api.OpFill, A: 7, Imm: 0}, [4]byte{20, 7, 0, 0}, "fill r7, 0", []int{41}, nil, []int{7}},
		{api.Code{Op: api.OpJump, Imm: 479}, [4]byte{21, 0, 0xDF, 1}, "jump 479", []int{479}, nil, nil},
		{api.Code{Op: api.OpJumpZ, A: 1, Imm: 7}, [4]byte{22, 1, 7, 0}, "jumpz r1, 7", []int{7, 41}, []int{1}, nil},
		{api.Code{Op: api.OpRead, A: 4, Imm: 5}, [4]byte{23, 4, 5, 0}, "read r4, 5", []int{41}, nil, []int{4}},
		{api.Code{Op: api.OpSend, A: 4, Imm: 7}, [4]byte{24, 4, 7, 0}, "send r4, 7", []int{41}, []int{4}, nil},
		{api.Code{Op: api.OpEmit, A: 7}, [4]byte{25, 7, 0, 0}, "emit r7", []int{41}, []int{7}, nil},
		{api.Code{Op: api.OpOut, A: 0, Imm: 1}, [4]byte{26, 0, 1, 0}, "out r0, 1", []int{41}, []int{0}, nil},
		{api.Code{Op: api.OpLog, Imm: 2562}, [4]byte{27, 0, 2, 10}, "log 2562", []int{41}, nil, nil},
		{api.Code{Op: api.OpLogX, A: 6}, [4]byte{28, 6, 0, 0}, "logx r6", []int{41}, []int{6}, nil},
		{api.Code{Op: api.OpCommit, Imm: 119}, [4]byte{29, 0, 119, 0}, "commit 119", []int{41}, nil, nil},
		{api.Code{Op: api.OpNop}, [4]byte{30, 0, 0, 0}, "nop", []int{41}, nil, nil},
	}
}

// P11.1, P11.2: an instruction of each operation.
func TestByHand(t *testing.T) {
	for i, w := range worked() {
		if w.code.Op != i+1 {
			t.Fatalf("instruction %d is %v", i+1, w.code)
		}
		if !checkCode(t, w.code) {
			t.Errorf("the definition: %v is invalid", w.code)
		}
		if got, e := Encode(w.code); got != w.bytes || e != api.OK {
			t.Errorf("Encode(%v) = % x, %d, want % x", w.code, got, e, w.bytes)
		}
		if got, e := Decode(w.bytes); got != w.code || e != api.OK {
			t.Errorf("Decode(% x) = %v, %d, want %v", w.bytes, got, e, w.code)
		}
		if got := Format(w.code); got != w.notation {
			t.Errorf("Format(%v) = %q, want %q", w.code, got, w.notation)
		}
		if got, e := Parse(w.notation); got != w.code || e != api.OK {
			t.Errorf("Parse(%q) = %v, %d, want %v", w.notation, got, e, w.code)
		}
		if got := Next(w.code, 40); !slices.Equal(got, w.next) {
			t.Errorf("Next(%v, 40) = %v, want %v", w.code, got, w.next)
		}
		if got := Reads(w.code); !slices.Equal(got, w.reads) {
			t.Errorf("Reads(%v) = %v, want %v", w.code, got, w.reads)
		}
		if got := Writes(w.code); !slices.Equal(got, w.writes) {
			t.Errorf("Writes(%v) = %v, want %v", w.code, got, w.writes)
		}
	}
}

// P11.1, P11.2: all valid instructions. Decode inverts Encode, and Parse inverts Format.
func TestAllValid(t *testing.T) {
	n := 0
	for _, k := range kinds() {
		n += k.count()
	}
	all := known()
	if len(all.codes) != n || len(all.encodings) != n || len(all.notations) != n {
		t.Fatalf("%d valid instructions, %d encodings and %d notations, want %d", len(all.codes), len(all.encodings), len(all.notations), n)
	}
	for b, c := range all.encodings {
		if !checkDecode(t, b) {
			t.Fatalf("% x of %v is not decoded", b, c)
		}
	}
	for s, c := range all.notations {
		if !checkParse(t, s) {
			t.Fatalf("%q of %v is not parsed", s, c)
		}
	}
}

// P11.1: each operation with every Imm.
func TestEveryImm(t *testing.T) {
	for op := -1; op <= 32; op++ {
		n := 0
		for imm := -32768; imm <= 32767; imm++ {
			c := api.Code{Op: op, Imm: int16(imm)}
			got := Valid(c)
			if got != valid(c) {
				t.Fatalf("Valid(%v) = %v", c, got)
			}
			if got {
				n++
			}
			if what := missing(c); got != (what == "") {
				t.Fatalf("%v: %q is missing", c, what)
			}
		}
		want := 0
		if k := kindOf(api.Code{Op: op}); k.mnemonic != "" {
			want = (k.hi-k.lo)/k.step + 1
		}
		if n != want {
			t.Errorf("%d values of Imm are valid for operation %d, want %d", n, op, want)
		}
	}
}

// missing returns what an instruction lacks that a valid one has, or an empty string.
func missing(c api.Code) string {
	if _, e := Encode(c); e != api.OK {
		return "encoding"
	}
	if Format(c) == "" {
		return "notation"
	}
	return ""
}

// P11.1: each operation, and others, with every combination of edge registers and edge values of Imm.
func TestEdges(t *testing.T) {
	registers := []int{math.MinInt, -256, -1, 0, 1, 6, 7, 8, 16, 256, 1 << 32, math.MaxInt}
	imms := []int16{-32768, -1, 0, 1, 2, 7, 8, 31, 32, 63, 64, 119, 120, 479, 480, 16382, 16383, 16384, 32767}
	ops := []int{math.MinInt, math.MinInt + 1, -1 << 32, -256, -30, -2, -1, 0, 31, 32, 33, 255, 256, 257, 1<<32 + 3, math.MaxInt - 1, math.MaxInt}
	for op := 1; op <= 30; op++ {
		ops = append(ops, op, op+32, op+256, op-256, op+1<<32, -op)
	}
	n := 0
	for _, op := range ops {
		for _, a := range registers {
			for _, b := range registers {
				c := api.Code{Op: op, A: a, B: b}
				checkCode(t, c)
				if kindOf(c).mnemonic == "" {
					continue
				}
				for _, third := range registers {
					for _, imm := range imms {
						if checkCode(t, api.Code{Op: op, A: a, B: b, C: third, Imm: imm}) {
							n++
						}
					}
				}
			}
		}
	}
	if n < 1000 {
		t.Errorf("only %d instructions are valid", n)
	}
}

// P11.1: valid instructions with one field changed: operands beyond their range, and other fields that are not zero.
func TestOneField(t *testing.T) {
	for _, w := range worked() {
		k := kindOf(w.code)
		for _, n := range integers() {
			for _, field := range []string{"A", "B", "C"} {
				c := w.code
				*map[string]*int{"A": &c.A, "B": &c.B, "C": &c.C}[field] = n
				want := n == 0 || k.has(field) && 0 <= n && n <= 7
				if got := checkCode(t, c); got != want {
					t.Fatalf("%v: the definition is wrong", c)
				}
			}
			c := w.code
			c.Op = n
			if n < 1 || n > 30 {
				if checkCode(t, c) {
					t.Fatalf("%v: the definition is wrong", c)
				}
			}
			checkCode(t, c)
		}
		for _, imm := range words() {
			c := w.code
			c.Imm = imm
			if got := checkCode(t, c); got && !k.has("I") && imm != 0 {
				t.Fatalf("%v: the definition is wrong", c)
			}
		}
	}
}

// P11.1: the ends of the range of Imm, as the chapter gives them by the names of the limits.
func TestImmRanges(t *testing.T) {
	for _, r := range []struct {
		op, hi, step int
	}{
		{api.OpLoad, api.NVMSize - 2, 2}, {api.OpStore, api.NVMSize - 2, 2}, {api.OpLog, api.NVMSize - 2, 2},
		{api.OpIndex, api.MaxGlobals - 1, 1}, {api.OpSpill, api.FrameSlots - 1, 1}, {api.OpFill, api.FrameSlots - 1, 1},
		{api.OpJump, api.MaxCode - 1, 1}, {api.OpJumpZ, api.MaxCode - 1, 1}, {api.OpRead, api.MaxSensors - 1, 1},
		{api.OpSend, api.MaxChannels - 1, 1}, {api.OpOut, api.MaxOutputs - 1, 1}, {api.OpCommit, api.MaxRegions - 1, 1},
	} {
		with := func(imm int) bool { return checkCode(t, api.Code{Op: r.op, Imm: int16(imm)}) }
		if !with(0) || !with(r.step) || !with(r.hi) {
			t.Errorf("operation %d: an end of the range is invalid", r.op)
		}
		if with(-1) || with(-r.step) || with(r.hi+1) || with(r.hi+r.step) || with(32767) || with(-32768) {
			t.Errorf("operation %d: a value beyond the range is valid", r.op)
		}
		if r.step == 2 && (with(1) || with(2561) || with(r.hi-1)) {
			t.Errorf("operation %d: an odd address is valid", r.op)
		}
	}
	for _, imm := range words() {
		if !checkCode(t, api.Code{Op: api.OpMovI, Imm: imm}) {
			t.Errorf("movi of %d is invalid", imm)
		}
	}
}

// P11.1, P11.2: every first byte with every second byte and edge values of the others. Encode inverts Decode.
func TestDecodeBytes(t *testing.T) {
	list, n := words(), 0
	for first := range 256 {
		for second := range 256 {
			for _, w := range list {
				if checkDecode(t, [4]byte{byte(first), byte(second), byte(w), byte(int(w) >> 8)}) {
					n++
				}
			}
		}
	}
	want := 0
	for _, c := range known().codes {
		k := kindOf(c)
		if i := int16(int(k.encoding(c)[2]) + int(k.encoding(c)[3])<<8); slices.Contains(list, i) {
			want++
		}
	}
	if n != want {
		t.Errorf("%d encodings, want %d", n, want)
	}
}

// P11.1, P11.2: every value of the last two bytes.
func TestDecodeLast(t *testing.T) {
	for first := range 33 {
		for _, second := range []byte{0, 0x12, 0x08} {
			for last := range 65536 {
				checkDecode(t, [4]byte{byte(first), second, byte(last % 256), byte(last / 256)})
			}
		}
	}
}

// P11.1: bytes that are no encoding, by hand.
func TestDecodeInvalid(t *testing.T) {
	for _, b := range [][4]byte{
		{}, {0, 0, 0, 1}, {31, 0, 0, 0}, {32, 0, 0, 0}, {255, 0, 0, 0}, {255, 255, 255, 255}, {129, 0, 0, 0},
		// Registers above 7.
		{2, 0x08, 0, 0}, {2, 0x0F, 0, 0}, {3, 0x80, 0, 0}, {3, 0x08, 0, 0}, {6, 0x88, 0, 0}, {6, 0x7F, 0, 0}, {6, 0xF7, 0, 0}, {25, 0x08, 0, 0},
		// A third register above 7, and a last byte that is not zero.
		{6, 0, 8, 0}, {6, 0, 255, 0}, {6, 0, 0, 1}, {6, 0, 7, 1}, {6, 0, 7, 255}, {13, 0, 8, 0}, {13, 0, 7, 1}, {6, 0, 0, 128}, {6, 0, 255, 255},
		// Fields that are no operands.
		{1, 1, 0, 0}, {1, 0x10, 0, 0}, {1, 0, 1, 0}, {1, 0, 0, 1}, {30, 1, 0, 0}, {30, 0x10, 0, 0}, {30, 0, 1, 0}, {30, 0, 0, 1},
		{2, 0x10, 0, 0}, {3, 0x11, 1, 0}, {3, 0x11, 0, 1}, {4, 0, 0, 128}, {5, 0, 1, 0}, {14, 0x10, 0, 0}, {15, 0x71, 0, 0}, {16, 0x11, 2, 0}, {17, 0x11, 0, 2},
		{19, 0x10, 0, 0}, {20, 0x10, 0, 0}, {21, 1, 0, 0}, {21, 0x10, 0, 0}, {22, 0x10, 0, 0}, {23, 0x10, 0, 0}, {24, 0x10, 0, 0}, {25, 0x10, 0, 0}, {25, 0, 1, 0}, {25, 0, 0, 1},
		{26, 0x10, 0, 0}, {27, 1, 0, 0}, {27, 0x10, 0, 0}, {28, 0x10, 0, 0}, {28, 0, 1, 0}, {28, 0, 0, 1}, {29, 1, 0, 0}, {29, 0x10, 0, 0},
		// Imm beyond its range or odd.
		{14, 0, 1, 0}, {14, 0, 255, 63}, {14, 0, 0, 64}, {14, 0, 254, 255}, {15, 0, 1, 10}, {15, 0, 0, 64}, {27, 0, 1, 0}, {27, 0, 0, 64}, {27, 0, 0, 128},
		{18, 0, 32, 0}, {18, 0, 0, 1}, {18, 0, 255, 255}, {19, 0, 64, 0}, {20, 0, 64, 0}, {21, 0, 224, 1}, {21, 0, 0, 2}, {21, 0, 255, 255}, {22, 0, 224, 1},
		{23, 0, 8, 0}, {24, 0, 8, 0}, {26, 0, 8, 0}, {29, 0, 120, 0}, {29, 0, 0, 1}, {29, 0, 255, 255},
	} {
		if checkDecode(t, b) {
			t.Errorf("% x is in the catalogue", b)
		}
	}
}

// P11.1: costs of all operations and of integers that are none.
func TestCosts(t *testing.T) {
	special := map[int][3]int{
		api.OpRead: {8, 4, 0}, api.OpSend: {10, 2, 8}, api.OpEmit: {4, 2, 2}, api.OpOut: {6, 2, 4},
		api.OpStore: {3, 2, 2}, api.OpStoreX: {3, 2, 2}, api.OpLog: {6, 4, 5}, api.OpLogX: {6, 4, 5}, api.OpCommit: {2, 2, 0},
	}
	ops := integers()
	for op := -1000; op <= 1000; op++ {
		ops = append(ops, op)
	}
	for _, op := range ops {
		want := special[op]
		if want == [3]int{} && 1 <= op && op <= 30 {
			want = [3]int{1, 1, 0}
		}
		if got := [3]int{Energy(op), Ticks(op), NVMWrites(op)}; got != want {
			t.Errorf("operation %d costs %v, want %v", op, got, want)
		}
		if Energy(op) < NVMWrites(op) {
			t.Errorf("operation %d: the energy is less than that of the writes", op)
		}
	}
}

// P11.1: addresses in range and beyond it, for each operation.
func TestNextAddress(t *testing.T) {
	for _, w := range worked() {
		for pc := -3; pc <= api.MaxCode+3; pc++ {
			if pc < 0 || pc >= 480 {
				if got := Next(w.code, pc); got != nil {
					t.Errorf("Next(%v, %d) = %v", w.code, pc, got)
				}
				continue
			}
			checkSet(t, w.code, "addresses that follow", Next(w.code, pc), followers(w.code, pc))
		}
		for _, pc := range integers() {
			if got := Next(w.code, pc); (pc < 0 || pc >= 480) && got != nil {
				t.Errorf("Next(%v, %d) = %v", w.code, pc, got)
			}
		}
	}
	for _, c := range []struct {
		code api.Code
		pc   int
		want []int
	}{
		{api.Code{Op: api.OpNop}, -1, nil},
		{api.Code{Op: api.OpNop}, 0, []int{1}},
		{api.Code{Op: api.OpNop}, api.MaxCode - 1, []int{480}},
		{api.Code{Op: api.OpNop}, api.MaxCode, nil},
		{api.Code{Op: api.OpCommit, Imm: 3}, 0, []int{1}},
		{api.Code{Op: api.OpCommit, Imm: 3}, 479, []int{480}},
		{api.Code{Op: api.OpHalt}, 0, nil},
		{api.Code{Op: api.OpHalt}, 479, nil},
		{api.Code{Op: api.OpJump, Imm: 0}, 0, []int{0}},
		{api.Code{Op: api.OpJump, Imm: 0}, 479, []int{0}},
		{api.Code{Op: api.OpJump, Imm: 479}, 479, []int{479}},
		{api.Code{Op: api.OpJump, Imm: 8}, 7, []int{8}},
		{api.Code{Op: api.OpJump, Imm: 8}, -1, nil},
		{api.Code{Op: api.OpJump, Imm: 8}, 480, nil},
		{api.Code{Op: api.OpJump, Imm: 480}, 7, nil},
		{api.Code{Op: api.OpJumpZ, Imm: 8}, 7, []int{8}},
		{api.Code{Op: api.OpJumpZ, Imm: 7}, 7, []int{7, 8}},
		{api.Code{Op: api.OpJumpZ, Imm: 6}, 7, []int{6, 8}},
		{api.Code{Op: api.OpJumpZ, Imm: 9}, 7, []int{8, 9}},
		{api.Code{Op: api.OpJumpZ, Imm: 0}, 0, []int{0, 1}},
		{api.Code{Op: api.OpJumpZ, Imm: 1}, 0, []int{1}},
		{api.Code{Op: api.OpJumpZ, Imm: 0}, 479, []int{0, 480}},
		{api.Code{Op: api.OpJumpZ, Imm: 479}, 479, []int{479, 480}},
		{api.Code{Op: api.OpJumpZ, Imm: 479}, 478, []int{479}},
		{api.Code{Op: api.OpJumpZ, Imm: 0}, -1, nil},
		{api.Code{Op: api.OpJumpZ, Imm: 0}, 480, nil},
		{api.Code{Op: api.OpJumpZ, A: 8}, 7, nil},
		{api.Code{}, 7, nil},
	} {
		if got := Next(c.code, c.pc); !slices.Equal(got, c.want) {
			t.Errorf("Next(%v, %d) = %v, want %v", c.code, c.pc, got, c.want)
		}
	}
}

// P11.1: all jumps from all addresses.
func TestNextJumps(t *testing.T) {
	for target := range int16(api.MaxCode) {
		for pc := range api.MaxCode {
			jump, branch := Next(api.Code{Op: api.OpJump, Imm: target}, pc), Next(api.Code{Op: api.OpJumpZ, A: 3, Imm: target}, pc)
			want := []int{pc + 1, int(target)}
			slices.Sort(want)
			if !slices.Equal(branch, slices.Compact(want)) {
				t.Fatalf("jumpz from %d to %d: %v", pc, target, branch)
			}
			if !slices.Equal(jump, []int{int(target)}) {
				t.Fatalf("jump from %d to %d: %v", pc, target, jump)
			}
		}
	}
}

// P11.1: all registers of each operation, also where several operands are the same one.
func TestRegisters(t *testing.T) {
	for _, k := range kinds() {
		if k.step != 1 || k.count() > 5000 {
			k.hi, k.lo = 0, 0
		}
		k.each(func(c api.Code) {
			checkSet(t, c, "registers that it reads", Reads(c), registersIn(c, k.reads))
			checkSet(t, c, "registers that it writes", Writes(c), registersIn(c, k.writes))
		})
	}
	same := api.Code{Op: api.OpStoreX, A: 4, B: 4}
	if got := Reads(same); !slices.Equal(got, []int{4}) {
		t.Errorf("Reads(%v) = %v", same, got)
	}
}

// P11.1: each result is new memory.
func TestMemory(t *testing.T) {
	for _, w := range worked() {
		for range 2 {
			for _, l := range [][]int{Next(w.code, 40), Reads(w.code), Writes(w.code)} {
				for i := range l {
					l[i] = 99
				}
				_ = append(l[:0], 98)
			}
			checkCode(t, w.code)
		}
	}
}

// P11.1, P11.2: random instructions, most of them valid. Decode inverts Encode, and Parse inverts Format.
func TestRandomCodes(t *testing.T) {
	g := generator(1)
	accepted := 0
	for range 300000 {
		c := g.code()
		if !checkCode(t, c) {
			continue
		}
		accepted++
		b, _ := Encode(c)
		if got, e := Decode(b); got != c || e != api.OK {
			t.Fatalf("%v becomes %v, %d", c, got, e)
		}
		if got, e := Parse(Format(c)); got != c || e != api.OK {
			t.Fatalf("%v becomes %v, %d", c, got, e)
		}
		pc := g.below(api.MaxCode)
		for _, l := range [][]int{Next(c, pc), Reads(c), Writes(c)} {
			if !slices.IsSorted(l) || len(slices.Compact(slices.Clone(l))) != len(l) {
				t.Fatalf("%v at %d: %v", c, pc, l)
			}
		}
	}
	if accepted < 100000 || accepted > 290000 {
		t.Errorf("%d instructions are valid", accepted)
	}
}

// P11.2: random bytes, most of them close to encodings. Encode inverts Decode.
func TestRandomBytes(t *testing.T) {
	g := generator(2)
	codes, accepted := known().codes, 0
	for range 500000 {
		c := pick(&g, codes)
		b := kindOf(c).encoding(c)
		for range g.below(3) {
			i := g.below(4)
			switch g.below(3) {
			case 0:
				b[i] = byte(g.below(256))
			case 1:
				b[i] ^= 1 << g.below(8)
			case 2:
				b[i] = byte(g.below(34))
			}
		}
		if checkDecode(t, b) {
			accepted++
		}
	}
	if accepted < 100000 || accepted > 490000 {
		t.Errorf("%d of the bytes are encodings", accepted)
	}
}
