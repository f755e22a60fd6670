package cpu

import (
	"math"
	"slices"
	"testing"

	"trickle/api"
)

// P12.1: arithmetic on all pairs of edge words, among them division and remainder by 0 and of the least word by -1.
func TestArithmetic(t *testing.T) {
	j := judgeOf(t)
	for op := api.OpMov; op <= api.OpLeR; op++ {
		code := api.Code{Op: op, A: 2, B: 5}
		if op >= api.OpAddR {
			code.C = 7
		}
		x := device(code)
		for _, b := range words() {
			for _, c := range words() {
				before := filled(0)
				before.R[5], before.R[7] = b, c
				if _, o, _ := j.step(before, x, 0, nil); o != Running {
					t.Fatalf("%v: outcome %d", code, o)
				}
			}
		}
	}
	for _, w := range []struct {
		op      int
		b, c, v int16
	}{
		{api.OpDivR, -7, 2, -3}, {api.OpDivR, 7, -2, -3}, {api.OpDivR, 5, 0, 0}, {api.OpDivR, -32768, 0, 0}, {api.OpDivR, -32768, -1, -32768},
		{api.OpModR, -7, 2, -1}, {api.OpModR, 7, -2, 1}, {api.OpModR, 5, 0, 0}, {api.OpModR, -5, 0, 0}, {api.OpModR, -32768, -1, 0},
		{api.OpAddR, 32767, 1, -32768}, {api.OpSubR, -32768, 1, 32767}, {api.OpMulR, 300, 300, 24464}, {api.OpMulR, -32768, -1, -32768},
		{api.OpEqR, -1, -1, 1}, {api.OpEqR, -1, 1, 0}, {api.OpLtR, -32768, 32767, 1}, {api.OpLtR, 32767, -32768, 0}, {api.OpLeR, 0, -1, 0},
	} {
		c := CPU{}
		c.R[1], c.R[2] = w.b, w.c
		if o := c.Step(device(api.Code{Op: w.op, A: 0, B: 1, C: 2}), &recorder{}); o != Running || c.R[0] != w.v {
			t.Errorf("operation %d of %d and %d: outcome %d, %d, want %d", w.op, w.b, w.c, o, c.R[0], w.v)
		}
	}
}

// P12.1: every choice of registers, so that the target register is also each operand, or all of them are the same.
func TestRegisters(t *testing.T) {
	j := judgeOf(t)
	before := CPU{R: [8]int16{2560, 3, -3, 0, 3582, 2562, -32768, 7}}
	for op := api.OpMov; op <= api.OpIndex; op++ {
		for a := range 8 {
			for b := range 8 {
				for c := range 8 {
					code := api.Code{Op: op, A: a, B: b, C: c}
					if op < api.OpAddR || op > api.OpLeR {
						code.C = 0
					}
					if op == api.OpLoad || op == api.OpStore {
						code.B, code.Imm = 0, 2570
					}
					j.step(before, device(code), 3, nil)
				}
			}
		}
	}
}

// isAddress reports whether an integer is the address of a word in [2560, 3584).
func isAddress(n int) bool { return n >= 2560 && n < 3584 && n%2 == 0 }

// P12.1: load, store and log with every Imm, and loadx, storex and logx with every word in the register.
func TestAddresses(t *testing.T) {
	methods := map[int]string{
		api.OpLoad: "Load", api.OpStore: "Store", api.OpLog: "Log", api.OpLoadX: "Load", api.OpStoreX: "Store", api.OpLogX: "Log",
	}
	for op, method := range methods {
		valid := 0
		for n := math.MinInt16; n <= math.MaxInt16; n++ {
			before := start()
			code := api.Code{Op: op}
			switch op {
			case api.OpLoad, api.OpStore, api.OpLog:
				code.Imm = int16(n)
			case api.OpLogX:
				code.A = 6
				before.R[6] = int16(n)
			default:
				code.B = 6
				before.R[6] = int16(n)
			}
			c, b := before, &recorder{}
			o := c.Step(device(api.Code{}, code), b)
			if !isAddress(n) {
				if o != Trapped || c != before || b.calls != nil {
					t.Fatalf("%v with %d: outcome %d, calls %v, state %+v", code, n, o, b.calls, c)
				}
				continue
			}
			valid++
			if o != Running || len(b.calls) != 2 || b.calls[1].method != method || b.calls[1].a != n {
				t.Fatalf("%v with %d: outcome %d, calls %v", code, n, o, b.calls)
			}
		}
		if valid != 512 {
			t.Errorf("operation %d: %d addresses", op, valid)
		}
	}
}

// P12.1: the edges of the addresses, with buses that fail.
func TestAddressEdges(t *testing.T) {
	j := judgeOf(t)
	for n, want := range map[int16]int{
		-32768: Trapped, -2560: Trapped, -2: Trapped, -1: Trapped, 0: Trapped, 768: Trapped, 1536: Trapped, 2558: Trapped, 2559: Trapped,
		2560: Running, 2561: Trapped, 2562: Running, 3000: Running, 3001: Trapped, 3580: Running, 3581: Trapped,
		3582: Running, 3583: Trapped, 3584: Trapped, 3585: Trapped, 4096: Trapped, 16382: Trapped, 32766: Trapped, 32767: Trapped,
	} {
		before := start()
		before.R[6] = n
		for _, code := range []api.Code{
			{Op: api.OpLoad, A: 6, Imm: n}, {Op: api.OpStore, A: 6, Imm: n}, {Op: api.OpLog, Imm: n},
			{Op: api.OpLoadX, A: 6, B: 6}, {Op: api.OpStoreX, A: 6, B: 6}, {Op: api.OpLogX, A: 6},
			{Op: api.OpLoadX, A: 0, B: 6}, {Op: api.OpStoreX, A: 0, B: 6},
		} {
			if o := j.failures(before, device(api.Code{}, code), 1); o != want {
				t.Errorf("%v with %d: outcome %d", code, n, o)
			}
		}
	}
}

// P12.1: index where Globals and Addr have the same and different lengths, and with every kind of Len.
func TestIndexVariables(t *testing.T) {
	j := judgeOf(t)
	for globals := range 5 {
		for addrs := range 5 {
			for _, n := range []int{-1, math.MinInt, 0, 1, 2, 5, 64} {
				x := &api.Image{Code: []api.Code{{}}}
				for range globals {
					x.Globals = append(x.Globals, api.Global{Len: n})
				}
				for i := range addrs {
					x.Addr = append(x.Addr, 2560+100*i)
				}
				for imm := range 6 {
					x.Code[0] = api.Code{Op: api.OpIndex, A: 3, B: 4, Imm: int16(imm)}
					want := Trapped
					if imm < globals && imm < addrs && n >= 1 {
						want = Running
					}
					if o := j.failures(filled(0), x, 0); o != want {
						t.Fatalf("variable %d of %d with %d addresses and length %d: outcome %d", imm, globals, addrs, n, o)
					}
				}
			}
		}
	}
}

// P12.1: index with a single variable that is too short or has no elements, while its neighbours have some.
func TestIndexOneVariable(t *testing.T) {
	j := judgeOf(t)
	for bad := range 3 {
		for _, n := range []int{0, -1, math.MinInt} {
			for imm := range 3 {
				x := device(api.Code{Op: api.OpIndex, A: 1, B: 1, Imm: int16(imm)})
				x.Globals[bad].Len = n
				want := Running
				if imm == bad {
					want = Trapped
				}
				if o := j.failures(filled(0), x, 0); o != want {
					t.Errorf("variable %d, and %d has length %d: outcome %d", imm, bad, n, o)
				}
			}
		}
	}
}

// P12.1: the address that index computes, for all words, and for addresses so large that the sum passes 2^15, 2^16
// and the greatest integer.
func TestIndexAddress(t *testing.T) {
	for _, w := range []struct {
		addr, length int
		i, v         int16
	}{
		{2560, 1, 0, 2560}, {2560, 1, -1, 2560}, {2560, 1, 32767, 2560}, {2560, 10, 3, 2566}, {2560, 10, 13, 2566}, {2560, 10, -1, 2570},
		{2560, 10, -32768, 2576}, {2560, 64, 63, 2686}, {2560, 64, 64, 2560}, {2560, 64, -1, 2686}, {2560, 65536, -1, 2558},
		{2560, 65536, -32768, 2560}, {32766, 2, 1, -32768}, {32767, 2, 1, -32767}, {65534, 2, 1, 0}, {65535, 2, 1, 1}, {65536, 2, 1, 2},
		{-2, 2, 1, 0}, {-32768, 2, 1, -32766}, {0, 40000, 20000, -25536}, {math.MaxInt, 2, 1, 1}, {math.MaxInt - 1, 2, 1, 0},
		{math.MinInt, 2, 1, 2}, {2560, math.MaxInt, -1, 2558}, {1 << 40, 3, 2, 4},
	} {
		x := &api.Image{Globals: []api.Global{{Len: w.length}}, Addr: []int{w.addr}, Code: []api.Code{{Op: api.OpIndex, A: 7, B: 6}}}
		c := CPU{}
		c.R[6] = w.i
		if o := c.Step(x, &recorder{}); o != Running || c.R[7] != w.v {
			t.Errorf("element %d of %d at %d: outcome %d, %d, want %d", w.i, w.length, w.addr, o, c.R[7], w.v)
		}
	}
	j := judgeOf(t)
	for _, length := range []int{1, 2, 5, 63, 64, 65535, 65536, 65537, math.MaxInt} {
		for _, addr := range []int{0, 2560, 32767, 65535, math.MaxInt, math.MinInt} {
			x := &api.Image{Globals: []api.Global{{}, {Len: length}}, Addr: []int{7, addr}, Code: []api.Code{{Op: api.OpIndex, A: 7, B: 6, Imm: 1}}}
			for i := math.MinInt16; i <= math.MaxInt16; i += 41 {
				before := filled(0)
				before.R[6] = int16(i)
				j.step(before, x, 0, nil)
			}
		}
	}
}

// P12.1: sensors, channels and output ports at the first, the last and the first missing one. The other counts of
// the image are different, so that the wrong one is noticed.
func TestCounts(t *testing.T) {
	j := judgeOf(t)
	counts := []int{0, 1, 2, 3, 7, 8}
	for _, n := range counts {
		for _, other := range counts {
			for imm := range 8 {
				read := device(api.Code{Op: api.OpRead, A: 4, Imm: int16(imm)})
				read.Sensors, read.Outputs, read.Channels = n, other, make([]int, other)
				send := device(api.Code{Op: api.OpSend, A: 4, Imm: int16(imm)})
				send.Sensors, send.Outputs, send.Channels = other, other, make([]int, n)
				out := device(api.Code{Op: api.OpOut, A: 4, Imm: int16(imm)})
				out.Sensors, out.Outputs, out.Channels = other, n, make([]int, other)
				want := Trapped
				if imm < n {
					want = Running
				}
				for _, x := range []*api.Image{read, send, out} {
					if o := j.failures(filled(0), x, n); o != want {
						t.Fatalf("%v with a count of %d: outcome %d", x.Code[0], n, o)
					}
				}
			}
		}
	}
	for _, n := range []int{-1, math.MinInt, math.MaxInt} {
		for _, op := range []int{api.OpRead, api.OpOut} {
			x := device(api.Code{Op: op, A: 1})
			x.Sensors, x.Outputs = n, n
			want := Running
			if n < 0 {
				want = Trapped
			}
			if o := j.failures(filled(0), x, n); o != want {
				t.Errorf("%v with a count of %d: outcome %d", x.Code[0], n, o)
			}
		}
	}
}

// P12.1: an image without anything to refer to. What needs nothing of it runs, everything else traps.
func TestBareImage(t *testing.T) {
	j := judgeOf(t)
	needs := []int{api.OpIndex, api.OpRead, api.OpSend, api.OpOut}
	for _, w := range byHand() {
		want := w.outcome
		if slices.Contains(needs, w.code.Op) {
			want = Trapped
		}
		if o := j.failures(start(), &api.Image{Code: []api.Code{{}, w.code}}, 0); o != want {
			t.Errorf("%v: outcome %d", w.code, o)
		}
	}
}
