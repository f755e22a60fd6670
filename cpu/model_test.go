package cpu

import (
	"math"
	"math/big"
	"reflect"
	"slices"
	"testing"

	"trickle/api"
	"trickle/isa"
)

// call is a call of a method of the bus with its arguments, which are 0 where it has none.
type call struct {
	method string
	a, b   int
}

// recorder is a bus that notes the calls of its methods. What it answers depends on its seed and on how many calls
// there were before. It answers with a value also when the power fails.
type recorder struct {
	seed  int
	fails func(n int, method string) bool // whether the power fails during call n, counted from 0
	calls []call
}

func (r *recorder) answer(method string, a, b int) (int16, bool) {
	n := len(r.calls)
	r.calls = append(r.calls, call{method, a, b})
	return int16(r.seed + 7919*(n+1)), r.fails == nil || !r.fails(n, method)
}

func (r *recorder) only(method string, a, b int) bool {
	_, ok := r.answer(method, a, b)
	return ok
}

func (r *recorder) Load(addr int) (int16, bool)    { return r.answer("Load", addr, 0) }
func (r *recorder) Store(addr int, v int16) bool   { return r.only("Store", addr, int(v)) }
func (r *recorder) Read(sensor int) (int16, bool)  { return r.answer("Read", sensor, 0) }
func (r *recorder) Send(channel int, v int16) bool { return r.only("Send", channel, int(v)) }
func (r *recorder) Emit(v int16) bool              { return r.only("Emit", int(v), 0) }
func (r *recorder) Output(port int, v int16) bool  { return r.only("Output", port, int(v)) }
func (r *recorder) Log(addr int) bool              { return r.only("Log", addr, 0) }
func (r *recorder) Spend(energy, ticks int) bool   { return r.only("Spend", energy, ticks) }

// failsAt returns a function by which the power fails during one call.
func failsAt(at int) func(n int, method string) bool {
	return func(n int, _ string) bool { return n == at }
}

// failsIn returns a function by which the power fails during each call of one method.
func failsIn(name string) func(n int, method string) bool {
	return func(_ int, method string) bool { return method == name }
}

// methods are those of the bus.
func methods() []string {
	return []string{"Load", "Store", "Read", "Send", "Emit", "Output", "Log", "Spend"}
}

// context is all that an instruction can refer to. What it changes is the CPU.
type context struct {
	*CPU
	code  api.Code
	image *api.Image
	bus   Bus
}

// row is what the chapters 11 and 12 say of one operation.
type row struct {
	energy, ticks int                  // without the energy of the non-volatile writes
	trap          func(m context) bool // whether an operand is invalid
	effect        func(m context) bool // false if the power fails; PC is the following address already
	outcome       int
}

// never is the trap of an operation whose operands are valid if the instruction is.
func never(context) bool { return false }

// computing returns the row of an operation that sets R[A] to the word of an exact number.
func computing(f func(m context) *big.Int) row {
	return row{1, 1, never, func(m context) bool {
		m.R[m.code.A] = wordOf(f(m))
		return true
	}, Running}
}

// wordOf returns the word that is congruent to a number modulo 2^16.
func wordOf(n *big.Int) int16 {
	r := new(big.Int).Mod(n, big.NewInt(65536)).Int64()
	if r > 32767 {
		r -= 65536
	}
	return int16(r)
}

func (m context) b() *big.Int { return big.NewInt(int64(m.R[m.code.B])) }
func (m context) c() *big.Int { return big.NewInt(int64(m.R[m.code.C])) }

// truth returns 1 or 0.
func truth(b bool) *big.Int {
	if b {
		return big.NewInt(1)
	}
	return new(big.Int)
}

// divided applies a division that truncates, or returns 0 if the divisor is 0.
func divided(m context, f func(z, x, y *big.Int) *big.Int) *big.Int {
	if m.c().Sign() == 0 {
		return new(big.Int)
	}
	return f(new(big.Int), m.b(), m.c())
}

// noDataAddress reports whether an address is odd or outside the global variables.
func noDataAddress(addr int16) bool { return addr < 2560 || addr > 3582 || addr&1 == 1 }

func trapImm(m context) bool { return noDataAddress(m.code.Imm) }
func trapA(m context) bool   { return noDataAddress(m.R[m.code.A]) }
func trapB(m context) bool   { return noDataAddress(m.R[m.code.B]) }

// load returns the row of an operation that loads from an address.
func load(trap func(context) bool, addr func(context) int16) row {
	return row{1, 1, trap, func(m context) bool {
		v, ok := m.bus.Load(int(addr(m)))
		m.R[m.code.A] = v
		return ok
	}, Running}
}

func imm(m context) int16 { return m.code.Imm }
func inA(m context) int16 { return m.R[m.code.A] }
func inB(m context) int16 { return m.R[m.code.B] }

// calling returns the row of an operation that only calls a method of the bus.
func calling(energy, ticks int, trap, f func(m context) bool) row {
	return row{energy, ticks, trap, f, Running}
}

// jump returns the row of an operation that continues at Imm under a condition.
func jump(condition func(m context) bool) row {
	return row{1, 1, never, func(m context) bool {
		if condition(m) {
			m.PC = int(m.code.Imm)
		}
		return true
	}, Running}
}

// elements returns the length of the global variable Imm, or 0 if the image has no such variable or no address of it.
func elements(m context) int {
	if n := int(m.code.Imm); n < min(len(m.image.Globals), len(m.image.Addr)) {
		return max(m.image.Globals[n].Len, 0)
	}
	return 0
}

// elementAddress is the definition of the result of index.
func elementAddress(m context) *big.Int {
	unsigned := int(m.R[m.code.B])
	if unsigned < 0 {
		unsigned += 65536
	}
	place := unsigned % elements(m)
	return new(big.Int).Add(big.NewInt(int64(m.image.Addr[m.code.Imm])), big.NewInt(int64(2*place)))
}

// rows returns what the chapters say of each operation, by its number.
func rows() map[int]row {
	nothing := func(context) bool { return true }
	index := computing(elementAddress)
	index.trap = func(m context) bool { return elements(m) == 0 }
	return map[int]row{
		1:  {1, 1, never, func(m context) bool { m.PC--; return true }, Halted},
		2:  computing(func(m context) *big.Int { return big.NewInt(int64(m.code.Imm)) }),
		3:  computing(func(m context) *big.Int { return m.b() }),
		4:  computing(func(m context) *big.Int { return new(big.Int).Neg(m.b()) }),
		5:  computing(func(m context) *big.Int { return truth(m.b().Sign() == 0) }),
		6:  computing(func(m context) *big.Int { return new(big.Int).Add(m.b(), m.c()) }),
		7:  computing(func(m context) *big.Int { return new(big.Int).Sub(m.b(), m.c()) }),
		8:  computing(func(m context) *big.Int { return new(big.Int).Mul(m.b(), m.c()) }),
		9:  computing(func(m context) *big.Int { return divided(m, (*big.Int).Quo) }),
		10: computing(func(m context) *big.Int { return divided(m, (*big.Int).Rem) }),
		11: computing(func(m context) *big.Int { return truth(m.b().Cmp(m.c()) == 0) }),
		12: computing(func(m context) *big.Int { return truth(m.b().Cmp(m.c()) < 0) }),
		13: computing(func(m context) *big.Int { return truth(m.b().Cmp(m.c()) <= 0) }),
		14: load(trapImm, imm),
		15: calling(1, 2, trapImm, func(m context) bool { return m.bus.Store(int(imm(m)), inA(m)) }),
		16: load(trapB, inB),
		17: calling(1, 2, trapB, func(m context) bool { return m.bus.Store(int(inB(m)), inA(m)) }),
		18: index,
		19: {1, 1, never, func(m context) bool { m.Frame[m.code.Imm] = inA(m); return true }, Running},
		20: computing(func(m context) *big.Int { return big.NewInt(int64(m.Frame[m.code.Imm])) }),
		21: jump(nothing),
		22: jump(func(m context) bool { return inA(m) == 0 }),
		23: {8, 4, func(m context) bool { return int(imm(m)) >= m.image.Sensors }, func(m context) bool {
			v, ok := m.bus.Read(int(imm(m)))
			m.R[m.code.A] = v
			return ok
		}, Running},
		24: calling(2, 2, func(m context) bool { return int(imm(m)) >= len(m.image.Channels) }, func(m context) bool { return m.bus.Send(int(imm(m)), inA(m)) }),
		25: calling(2, 2, never, func(m context) bool { return m.bus.Emit(inA(m)) }),
		26: calling(2, 2, func(m context) bool { return int(imm(m)) >= m.image.Outputs }, func(m context) bool { return m.bus.Output(int(imm(m)), inA(m)) }),
		27: calling(1, 4, trapImm, func(m context) bool { return m.bus.Log(int(imm(m))) }),
		28: calling(1, 4, trapA, func(m context) bool { return m.bus.Log(int(inA(m))) }),
		29: {2, 2, never, nothing, Commit},
		30: {1, 1, never, nothing, Running},
	}
}

// predict is the definition of Step: it returns the state after it and the outcome, and calls the bus.
func predict(all map[int]row, before CPU, x *api.Image, b Bus) (CPU, int) {
	if before.PC < 0 || before.PC >= len(x.Code) {
		return before, Trapped
	}
	code := x.Code[before.PC]
	after := before
	m := context{&after, code, x, b}
	r, known := all[code.Op]
	if !known || !isa.Valid(code) || r.trap(m) {
		return before, Trapped
	}
	after.PC++
	if !b.Spend(r.energy, r.ticks) || !r.effect(m) {
		return before, Failed
	}
	return after, r.outcome
}

// judge compares steps with their definition.
type judge struct {
	*testing.T
	all map[int]row
}

func judgeOf(t *testing.T) judge { return judge{t, rows()} }

// step compares a step with its definition, and returns the state after it, the outcome and the calls.
func (t judge) step(before CPU, x *api.Image, seed int, fails func(n int, method string) bool) (CPU, int, []call) {
	t.Helper()
	got, want := recorder{seed: seed, fails: fails}, recorder{seed: seed, fails: fails}
	expected, outcome := predict(t.all, before, x, &want)
	after := before
	o := after.Step(x, &got)
	if o != outcome || !slices.Equal(got.calls, want.calls) {
		t.Fatalf("%v, %+v: outcome %d with the calls %v, want %d with %v", codeAt(before, x), before, o, got.calls, outcome, want.calls)
	}
	if after != expected {
		t.Fatalf("%v, %+v: the state becomes %+v, want %+v", codeAt(before, x), before, after, expected)
	}
	if o == Trapped && got.calls != nil || (o == Trapped || o == Failed) && after != before {
		t.Fatalf("%v, %+v: with outcome %d the state becomes %+v, and the calls are %v", codeAt(before, x), before, o, after, got.calls)
	}
	return after, o, got.calls
}

// failures compares a step with its definition for buses of which no call fails, one method alone fails, and one
// call alone fails, also if it panics. It returns the outcome if no call fails.
func (t judge) failures(before CPU, x *api.Image, seed int) int {
	t.Helper()
	image := cloned(x)
	_, outcome, calls := t.step(before, x, seed, nil)
	for _, method := range methods() {
		_, o, _ := t.step(before, x, seed, failsIn(method))
		called := slices.ContainsFunc(calls, func(c call) bool { return c.method == method })
		if called && o != Failed || !called && o != outcome {
			t.Fatalf("%v, %+v: outcome %d where %s fails", codeAt(before, x), before, o, method)
		}
	}
	for n := range 3 {
		_, o, made := t.step(before, x, seed, failsAt(n))
		if n < len(calls) && (o != Failed || !slices.Equal(made, calls[:n+1])) || n >= len(calls) && o != outcome {
			t.Fatalf("%v, %+v: outcome %d where call %d fails", codeAt(before, x), before, o, n)
		}
		t.panics(before, x, n, n < len(calls))
	}
	if !reflect.DeepEqual(*x, image) {
		t.Fatalf("%v, %+v: the image is changed", codeAt(before, x), before)
	}
	return outcome
}

// panics tests a step with a bus whose call n panics.
func (t judge) panics(before CPU, x *api.Image, n int, made bool) {
	t.Helper()
	b := recorder{fails: func(i int, _ string) bool {
		if i == n {
			panic("no answer")
		}
		return false
	}}
	after := before
	o := after.Step(x, &b)
	if made && (o != Failed || after != before || len(b.calls) != n+1) || !made && o == Failed {
		t.Fatalf("%v, %+v: outcome %d where call %d panics, and the state becomes %+v", codeAt(before, x), before, o, n, after)
	}
}

// codeAt returns the instruction that is next, or none.
func codeAt(c CPU, x *api.Image) api.Code {
	if c.PC < 0 || c.PC >= len(x.Code) {
		return api.Code{}
	}
	return x.Code[c.PC]
}

// cloned returns an image that shares no memory with another one.
func cloned(x *api.Image) api.Image {
	y := *x
	y.Globals, y.Channels, y.Addr, y.Code = slices.Clone(x.Globals), slices.Clone(x.Channels), slices.Clone(x.Addr), slices.Clone(x.Code)
	return y
}

// filled returns a CPU in which all registers and slots are different and not zero.
func filled(pc int) CPU {
	c := CPU{PC: pc}
	for i := range c.R {
		c.R[i] = int16(1000 + 17*i)
	}
	for i := range c.Frame {
		c.Frame[i] = int16(-2000 + 13*i)
	}
	return c
}

// device returns an image with some code, and with some of everything that code can refer to.
func device(code ...api.Code) *api.Image {
	return &api.Image{
		Globals:  []api.Global{{Len: 1}, {Len: 5}, {Len: 64}},
		Sensors:  3,
		Outputs:  2,
		Channels: []int{4, 1, 16, 2},
		Addr:     []int{2560, 2562, 2572},
		Code:     code,
	}
}

// integers are those around the ends of every range, and the least and the greatest ones.
func integers() []int {
	return []int{
		math.MinInt, math.MinInt + 1, math.MinInt32, -65536, -32769, -32768, -480, -72, -64, -8, -2, -1,
		0, 1, 2, 6, 7, 8, 9, 63, 64, 65, 70, 71, 72, 73, 479, 480, 481, 32767, 32768, 65535, 65536, 65543,
		math.MaxInt32, 1 << 32, 1<<32 + 7, math.MaxInt - 1, math.MaxInt,
	}
}

// words are those at which the arithmetic wraps or changes sign, and those around the ends of the addresses.
func words() []int16 {
	return []int16{
		-32768, -32767, -256, -182, -8, -7, -3, -2, -1, 0, 1, 2, 3, 7, 8, 181, 182, 255, 256,
		2558, 2559, 2560, 2561, 2562, 3582, 3583, 3584, 3585, 3586, 16383, 16384, 32766, 32767,
	}
}
