package cpu

import (
	"math"
	"slices"
	"testing"

	"trickle/api"
	"trickle/isa"
)

// P12.1: the values of the outcomes.
func TestOutcomes(t *testing.T) {
	if Running != 1 || Halted != 2 || Commit != 3 || Failed != 4 || Trapped != 5 {
		t.Errorf("%d, %d, %d, %d, %d", Running, Halted, Commit, Failed, Trapped)
	}
}

// worked is a step worked out by hand. The CPU before it is that of start, with PC 1.
type worked struct {
	code    api.Code
	calls   []call // with a recorder of seed 0, whose answers are 7919, 15838, ..
	change  func(c *CPU)
	outcome int
}

// start returns a CPU whose values are easy to tell apart.
func start() CPU {
	c := CPU{PC: 1, R: [8]int16{10, -20, 2562, -4, 0, 3, 7, -32768}}
	for i := range c.Frame {
		c.Frame[i] = int16(100 + i)
	}
	return c
}

// set returns a change that assigns a register and goes on.
func set(r int, v int16) func(c *CPU) {
	return func(c *CPU) {
		c.R[r] = v
		c.PC = 2
	}
}

// goTo returns a change that only continues at an address.
func goTo(pc int) func(c *CPU) {
	return func(c *CPU) { c.PC = pc }
}

// byHand returns at least one step for each operation.
func byHand() []worked {
	spend := []call{{"Spend", 1, 1}}
	and := func(energy, ticks int, method string, a, b int) []call {
		return []call{{"Spend", energy, ticks}, {method, a, b}}
	}
	slot := func(c *CPU) {
		c.Frame[63] = -4
		c.PC = 2
	}
	return []worked{
		{api.Code{Op: api.OpHalt}, spend, goTo(1), Halted},
		{api.Code{Op: api.OpMovI, A: 3, Imm: -32768}, spend, set(3, -32768), Running},
		{api.Code{Op: api.OpMov, A: 4, B: 1}, spend, set(4, -20), Running},
		{api.Code{Op: api.OpNegR, A: 0, B: 1}, spend, set(0, 20), Running},
		{api.Code{Op: api.OpNegR, A: 7, B: 7}, spend, set(7, -32768), Running},
		{api.Code{Op: api.OpNotR, A: 0, B: 4}, spend, set(0, 1), Running},
		{api.Code{Op: api.OpNotR, A: 1, B: 1}, spend, set(1, 0), Running},
		{api.Code{Op: api.OpAddR, A: 3, B: 0, C: 1}, spend, set(3, -10), Running},
		{api.Code{Op: api.OpAddR, A: 7, B: 7, C: 7}, spend, set(7, 0), Running},
		{api.Code{Op: api.OpSubR, A: 6, B: 0, C: 1}, spend, set(6, 30), Running},
		{api.Code{Op: api.OpSubR, A: 0, B: 7, C: 5}, spend, set(0, 32765), Running},
		{api.Code{Op: api.OpMulR, A: 0, B: 3, C: 5}, spend, set(0, -12), Running},
		{api.Code{Op: api.OpMulR, A: 2, B: 2, C: 0}, spend, set(2, 25620), Running},
		{api.Code{Op: api.OpDivR, A: 5, B: 1, C: 6}, spend, set(5, -2), Running},
		{api.Code{Op: api.OpDivR, A: 1, B: 1, C: 4}, spend, set(1, 0), Running},
		{api.Code{Op: api.OpModR, A: 5, B: 1, C: 6}, spend, set(5, -6), Running},
		{api.Code{Op: api.OpModR, A: 1, B: 1, C: 4}, spend, set(1, 0), Running},
		{api.Code{Op: api.OpEqR, A: 0, B: 5, C: 5}, spend, set(0, 1), Running},
		{api.Code{Op: api.OpEqR, A: 0, B: 5, C: 6}, spend, set(0, 0), Running},
		{api.Code{Op: api.OpLtR, A: 5, B: 5, C: 6}, spend, set(5, 1), Running},
		{api.Code{Op: api.OpLtR, A: 5, B: 0, C: 7}, spend, set(5, 0), Running},
		{api.Code{Op: api.OpLtR, A: 5, B: 5, C: 5}, spend, set(5, 0), Running},
		{api.Code{Op: api.OpLeR, A: 5, B: 5, C: 5}, spend, set(5, 1), Running},
		{api.Code{Op: api.OpLeR, A: 2, B: 5, C: 3}, spend, set(2, 0), Running},
		{api.Code{Op: api.OpLoad, A: 6, Imm: 2600}, and(1, 1, "Load", 2600, 0), set(6, 15838), Running},
		{api.Code{Op: api.OpStore, A: 3, Imm: 3582}, and(1, 2, "Store", 3582, -4), goTo(2), Running},
		{api.Code{Op: api.OpLoadX, A: 2, B: 2}, and(1, 1, "Load", 2562, 0), set(2, 15838), Running},
		{api.Code{Op: api.OpStoreX, A: 7, B: 2}, and(1, 2, "Store", 2562, -32768), goTo(2), Running},
		{api.Code{Op: api.OpIndex, A: 0, B: 6, Imm: 1}, spend, set(0, 2566), Running},
		{api.Code{Op: api.OpIndex, A: 3, B: 3, Imm: 1}, spend, set(3, 2566), Running},
		{api.Code{Op: api.OpSpill, A: 3, Imm: 63}, spend, slot, Running},
		{api.Code{Op: api.OpFill, A: 1, Imm: 62}, spend, set(1, 162), Running},
		{api.Code{Op: api.OpJump, Imm: 479}, spend, goTo(479), Running},
		{api.Code{Op: api.OpJumpZ, A: 4, Imm: 0}, spend, goTo(0), Running},
		{api.Code{Op: api.OpJumpZ, A: 5, Imm: 0}, spend, goTo(2), Running},
		{api.Code{Op: api.OpRead, A: 4, Imm: 2}, and(8, 4, "Read", 2, 0), set(4, 15838), Running},
		{api.Code{Op: api.OpSend, A: 1, Imm: 3}, and(2, 2, "Send", 3, -20), goTo(2), Running},
		{api.Code{Op: api.OpEmit, A: 7}, and(2, 2, "Emit", -32768, 0), goTo(2), Running},
		{api.Code{Op: api.OpOut, A: 0, Imm: 1}, and(2, 2, "Output", 1, 10), goTo(2), Running},
		{api.Code{Op: api.OpLog, Imm: 2560}, and(1, 4, "Log", 2560, 0), goTo(2), Running},
		{api.Code{Op: api.OpLogX, A: 2}, and(1, 4, "Log", 2562, 0), goTo(2), Running},
		{api.Code{Op: api.OpCommit, Imm: 119}, []call{{"Spend", 2, 2}}, goTo(2), Commit},
		{api.Code{Op: api.OpNop}, spend, goTo(2), Running},
	}
}

// P12.1: each operation, with buses that let every call through, and with buses that do not.
func TestByHand(t *testing.T) {
	j := judgeOf(t)
	done := map[int]bool{}
	for _, w := range byHand() {
		done[w.code.Op] = true
		x := device(api.Code{Op: api.OpHalt}, w.code)
		want := start()
		w.change(&want)
		c, b := start(), &recorder{}
		if o := c.Step(x, b); o != w.outcome || c != want || !slices.Equal(b.calls, w.calls) {
			t.Errorf("%v: outcome %d, calls %v, state %+v, want %d, %v, %+v", w.code, o, b.calls, c, w.outcome, w.calls, want)
		}
		for n := range w.calls {
			c, b := start(), &recorder{fails: failsAt(n)}
			if o := c.Step(x, b); o != Failed || c != start() || !slices.Equal(b.calls, w.calls[:n+1]) {
				t.Errorf("%v, call %d fails: outcome %d, calls %v, state %+v", w.code, n, o, b.calls, c)
			}
		}
		if o := j.failures(start(), x, 0); o != w.outcome {
			t.Errorf("%v: the definition has outcome %d", w.code, o)
		}
	}
	if len(done) != 30 {
		t.Errorf("%d operations", len(done))
	}
}

// P12.1: PC inside and outside of the code.
func TestPC(t *testing.T) {
	j := judgeOf(t)
	nop := api.Code{Op: api.OpNop}
	for length := range 5 {
		x := device(slices.Repeat([]api.Code{nop}, length)...)
		for _, pc := range append(integers(), 3, 4, 5) {
			want := Trapped
			if pc >= 0 && pc < length {
				want = Running
			}
			if o := j.failures(filled(pc), x, pc); o != want {
				t.Errorf("PC %d of %d: outcome %d", pc, length, o)
			}
		}
	}
	x := &api.Image{}
	if o := j.failures(CPU{}, x, 0); o != Trapped {
		t.Errorf("no code: outcome %d", o)
	}
	x.Code = []api.Code{}
	if o := j.failures(CPU{}, x, 0); o != Trapped {
		t.Errorf("empty code: outcome %d", o)
	}
}

// P12.1: behind the last instruction the next step traps, also behind a commit and a jump out of the code.
func TestEndOfCode(t *testing.T) {
	for _, code := range []api.Code{
		{Op: api.OpNop}, {Op: api.OpCommit, Imm: 1}, {Op: api.OpJump, Imm: 1}, {Op: api.OpJump, Imm: 479},
		{Op: api.OpJumpZ, A: 0, Imm: 300}, {Op: api.OpEmit, A: 1},
	} {
		x, c := device(code), CPU{}
		if o := c.Step(x, &recorder{}); o == Trapped || o == Failed || c.PC < 1 {
			t.Errorf("%v: outcome %d, PC %d", code, o, c.PC)
		}
		before, b := c, &recorder{}
		if o := c.Step(x, b); o != Trapped || c != before || b.calls != nil {
			t.Errorf("behind %v: outcome %d, PC %d, calls %v", code, o, c.PC, b.calls)
		}
	}
}

// P12.1: an instruction that is not valid traps. Each of these differs from a valid one in one field.
func TestInvalidInstructions(t *testing.T) {
	j := judgeOf(t)
	trapped := map[int]int{}
	for _, w := range byHand() {
		for _, n := range integers() {
			for field := range 5 {
				code := w.code
				switch field {
				case 0:
					code.Op = n
				case 1:
					code.A = n
				case 2:
					code.B = n
				case 3:
					code.C = n
				case 4:
					code.Imm = int16(n)
				}
				if !isa.Valid(code) {
					trapped[w.code.Op]++
					if o := j.failures(start(), device(api.Code{Op: api.OpNop}, code), n); o != Trapped {
						t.Errorf("%v: outcome %d", code, o)
					}
				}
			}
		}
	}
	for op := 1; op <= 30; op++ {
		if trapped[op] < 50 {
			t.Errorf("operation %d: only %d are invalid", op, trapped[op])
		}
	}
	for _, code := range []api.Code{
		{}, {Op: 31}, {Op: -1}, {Op: math.MinInt}, {Op: math.MaxInt}, {Op: api.OpHalt, A: 1}, {Op: api.OpHalt, Imm: 1},
		{Op: api.OpNop, C: 1}, {Op: api.OpMovI, A: 8}, {Op: api.OpMovI, A: -1}, {Op: api.OpMov, B: 8}, {Op: api.OpMov, B: -1},
		{Op: api.OpAddR, C: 8}, {Op: api.OpAddR, C: -1}, {Op: api.OpAddR, Imm: 1}, {Op: api.OpMov, C: 1},
		{Op: api.OpSpill, Imm: 64}, {Op: api.OpSpill, Imm: -1}, {Op: api.OpFill, Imm: 64}, {Op: api.OpFill, Imm: -1},
		{Op: api.OpJump, Imm: 480}, {Op: api.OpJump, Imm: -1}, {Op: api.OpJumpZ, Imm: 480}, {Op: api.OpJumpZ, Imm: -1},
		{Op: api.OpRead, Imm: -1}, {Op: api.OpSend, Imm: -1}, {Op: api.OpOut, Imm: -1}, {Op: api.OpIndex, Imm: -1},
		{Op: api.OpCommit, Imm: 120}, {Op: api.OpCommit, Imm: -1}, {Op: api.OpLoad, Imm: 2561}, {Op: api.OpLoad, Imm: -2},
	} {
		c, b := start(), &recorder{}
		if o := c.Step(device(api.Code{Op: api.OpNop}, code), b); o != Trapped || c != start() || b.calls != nil {
			t.Errorf("%v: outcome %d, calls %v, state %+v", code, o, b.calls, c)
		}
	}
}

// P12.1: the costs of each operation, as the bus is told.
func TestCosts(t *testing.T) {
	costs := map[int][2]int{
		api.OpRead: {8, 4}, api.OpSend: {2, 2}, api.OpEmit: {2, 2}, api.OpOut: {2, 2}, api.OpStore: {1, 2},
		api.OpStoreX: {1, 2}, api.OpLog: {1, 4}, api.OpLogX: {1, 4}, api.OpCommit: {2, 2},
	}
	for _, w := range byHand() {
		want, ok := costs[w.code.Op]
		if !ok {
			want = [2]int{1, 1}
		}
		c, b := start(), &recorder{}
		c.Step(device(api.Code{}, w.code), b)
		if len(b.calls) == 0 || b.calls[0] != (call{"Spend", want[0], want[1]}) {
			t.Errorf("%v: %v, want %v", w.code, b.calls, want)
		}
	}
}

// P12.1: halt stays where it is, however often it is executed, and is paid for each time.
func TestHalt(t *testing.T) {
	x, c, b := device(api.Code{Op: api.OpHalt}), filled(0), &recorder{}
	for n := 1; n <= 3; n++ {
		if o := c.Step(x, b); o != Halted || c != filled(0) || len(b.calls) != n || b.calls[n-1] != (call{"Spend", 1, 1}) {
			t.Fatalf("outcome %d, calls %v, state %+v", o, b.calls, c)
		}
	}
}

// P12.1: after a commit the next step executes the instruction behind it. The image need not have the region.
func TestCommit(t *testing.T) {
	x := device(api.Code{Op: api.OpCommit, Imm: 7}, api.Code{Op: api.OpMovI, A: 2, Imm: 9}, api.Code{Op: api.OpCommit}, api.Code{Op: api.OpHalt})
	c, b := filled(0), &recorder{}
	want := filled(1)
	if o := c.Step(x, b); o != Commit || c != want {
		t.Fatalf("outcome %d, state %+v", o, c)
	}
	want.PC, want.R[2] = 2, 9
	if o := c.Step(x, b); o != Running || c != want {
		t.Fatalf("outcome %d, state %+v", o, c)
	}
	want.PC = 3
	if o := c.Step(x, b); o != Commit || c != want {
		t.Fatalf("outcome %d, state %+v", o, c)
	}
	if calls := []call{{"Spend", 2, 2}, {"Spend", 1, 1}, {"Spend", 2, 2}}; !slices.Equal(b.calls, calls) {
		t.Errorf("calls %v", b.calls)
	}
}

// P12.1: jumps to every kind of target, with a condition of every kind.
func TestJumps(t *testing.T) {
	j := judgeOf(t)
	for _, target := range []int16{0, 1, 2, 3, 4, 5, 119, 478, 479} {
		for _, pc := range []int{0, 1, 3} {
			for _, v := range words() {
				for r := range 8 {
					code := api.Code{Op: api.OpJumpZ, A: r, Imm: target}
					x := device(slices.Repeat([]api.Code{code}, 4)...)
					before := filled(pc)
					before.R[r] = v
					want := before
					want.PC = pc + 1
					if v == 0 {
						want.PC = int(target)
					}
					if after, o, _ := j.step(before, x, 0, nil); o != Running || after != want {
						t.Fatalf("%v with %d: outcome %d, PC %d", code, v, o, after.PC)
					}
				}
			}
			x := device(slices.Repeat([]api.Code{{Op: api.OpJump, Imm: target}}, 4)...)
			if after, o, _ := j.step(filled(pc), x, 0, nil); o != Running || after != filled(int(target)) {
				t.Fatalf("jump to %d: outcome %d, PC %d", target, o, after.PC)
			}
		}
	}
}

// P12.1: every slot is written and read from every register, and nothing else changes.
func TestSlots(t *testing.T) {
	for slot := range 64 {
		for r := range 8 {
			x := device(api.Code{Op: api.OpSpill, A: r, Imm: int16(slot)}, api.Code{Op: api.OpFill, A: r, Imm: int16(slot)})
			c, want := filled(0), filled(1)
			want.Frame[slot] = want.R[r]
			if o := c.Step(x, &recorder{}); o != Running || c != want {
				t.Fatalf("spill of r%d to %d: outcome %d, state %+v", r, slot, o, c)
			}
			c, want = filled(1), filled(2)
			want.R[r] = want.Frame[slot]
			if o := c.Step(x, &recorder{}); o != Running || c != want {
				t.Fatalf("fill of r%d from %d: outcome %d, state %+v", r, slot, o, c)
			}
		}
	}
}
