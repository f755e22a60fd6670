package cpu

import (
	"maps"
	"slices"
	"testing"

	"trickle/api"
	"trickle/isa"
)

// generator makes numbers that follow no simple rule. Its value is never 0.
type generator uint64

// below returns a number from 0 to n-1.
func (g *generator) below(n int) int {
	*g ^= *g << 13
	*g ^= *g >> 7
	*g ^= *g << 17
	return int((uint64(*g) >> 20) % uint64(n))
}

// pick returns one of some values.
func pick[T any](g *generator, l []T) T { return l[g.below(len(l))] }

// word returns a word that is often an edge or a data address.
func (g *generator) word() int16 {
	switch g.below(4) {
	case 0:
		return pick(g, words())
	case 1, 2:
		return int16(2560 + 2*g.below(512))
	}
	return int16(g.below(65536) - 32768)
}

// state returns a CPU with any values.
func (g *generator) state(pc int) CPU {
	c := CPU{PC: pc}
	for i := range c.R {
		c.R[i] = g.word()
	}
	for i := range c.Frame {
		c.Frame[i] = g.word()
	}
	return c
}

// code returns an instruction for code of some length, which is valid with few exceptions.
func (g *generator) code(length int) api.Code {
	c := api.Code{Op: 1 + g.below(30), A: g.below(8), B: g.below(8), C: g.below(8)}
	switch c.Op {
	case api.OpMovI:
		c.Imm = g.word()
	case api.OpLoad, api.OpStore, api.OpLog:
		c.Imm = int16(2560 + 2*g.below(515))
	case api.OpIndex, api.OpRead, api.OpSend, api.OpOut:
		c.Imm = int16(g.below(4))
	case api.OpSpill, api.OpFill:
		c.Imm = int16(g.below(64))
	case api.OpJump, api.OpJumpZ:
		c.Imm = int16(g.below(length + 1))
	case api.OpCommit:
		c.Imm = int16(g.below(120))
	}
	c = trimmed(c)
	if g.below(100) == 0 {
		*pick(g, []*int{&c.Op, &c.A, &c.B, &c.C}) = pick(g, integers())
	}
	return c
}

// trimmed returns an instruction in which the fields that are no operands are 0.
func trimmed(c api.Code) api.Code {
	for _, field := range []*int{&c.C, &c.B, &c.A} {
		if !isa.Valid(c) {
			*field = 0
		}
	}
	return c
}

// image returns an image with any code.
func (g *generator) image() *api.Image {
	x := &api.Image{Sensors: g.below(5), Outputs: g.below(5), Channels: make([]int, g.below(5))}
	for range g.below(5) {
		x.Globals = append(x.Globals, api.Global{Len: pick(g, []int{1, 1, 5, 64, 0})})
	}
	for i := range g.below(5) {
		x.Addr = append(x.Addr, 2560+128*i)
	}
	length := g.below(30)
	for range length {
		x.Code = append(x.Code, g.code(length))
	}
	return x
}

// memory is a bus with words, sensors and energy. Its energy is used up by the calls of its methods.
type memory struct {
	words  map[int]int16
	next   int16 // reading
	energy int
	calls  []call
}

func newMemory(energy int) *memory { return &memory{words: map[int]int16{}, energy: energy} }

// cloned returns a bus with the same state that shares no memory with it.
func (m *memory) cloned() *memory {
	n := *m
	n.words, n.calls = maps.Clone(m.words), slices.Clone(m.calls)
	return &n
}

// note notes a call that uses some energy, and reports whether there was enough of it.
func (m *memory) note(energy int, method string, a, b int) bool {
	m.calls = append(m.calls, call{method, a, b})
	m.energy -= energy
	return m.energy >= 0
}

func (m *memory) Load(addr int) (int16, bool) {
	ok := m.note(0, "Load", addr, 0)
	return m.words[addr], ok
}

func (m *memory) Store(addr int, v int16) bool {
	m.words[addr] = v
	return m.note(2, "Store", addr, int(v))
}

func (m *memory) Read(sensor int) (int16, bool) {
	m.next += int16(100 + sensor)
	return m.next, m.note(0, "Read", sensor, 0)
}

func (m *memory) Send(channel int, v int16) bool { return m.note(8, "Send", channel, int(v)) }
func (m *memory) Emit(v int16) bool              { return m.note(2, "Emit", int(v), 0) }
func (m *memory) Output(port int, v int16) bool  { return m.note(4, "Output", port, int(v)) }
func (m *memory) Log(addr int) bool              { return m.note(5, "Log", addr, 0) }
func (m *memory) Spend(energy, ticks int) bool   { return m.note(energy, "Spend", energy, ticks) }

// P12.1, P12.2: random images, states and failures. A step that fails or traps changes nothing.
func TestRandomSteps(t *testing.T) {
	g := generator(1)
	j := judgeOf(t)
	outcomes, done := map[int]int{}, map[int]int{}
	for range 30000 {
		x := g.image()
		before := g.state(g.below(len(x.Code)+2) - 1)
		o := j.failures(before, x, g.below(1000))
		outcomes[o]++
		if o != Trapped {
			done[codeAt(before, x).Op]++
		}
	}
	for _, o := range []int{Running, Halted, Commit, Trapped} {
		if outcomes[o] < 500 {
			t.Errorf("outcome %d: %d times", o, outcomes[o])
		}
	}
	for op := 1; op <= 30; op++ {
		if done[op] < 100 {
			t.Errorf("operation %d: %d times", op, done[op])
		}
	}
}

// P12.1: random runs are the steps of the definition one after the other, and end with the first other outcome.
func TestRandomRuns(t *testing.T) {
	g := generator(2)
	all := rows()
	outcomes := map[int]int{}
	for range 20000 {
		x, before, b := g.image(), g.state(0), newMemory(g.below(150))
		limit := g.below(40) - 2
		want, outcome, steps := before, Running, 0
		model := b.cloned()
		for steps < limit && outcome == Running {
			want, outcome = predict(all, want, x, model)
			steps++
		}
		c := before
		if o, n := c.Run(x, b, limit); o != outcome || n != steps || c != want || !slices.Equal(b.calls, model.calls) {
			t.Fatalf("%v: outcome %d after %d steps, state %+v, want %d after %d, %+v", x.Code, o, n, c, outcome, steps, want)
		}
		outcomes[outcome]++
	}
	for o := Running; o <= Trapped; o++ {
		if outcomes[o] < 500 {
			t.Errorf("outcome %d: %d times", o, outcomes[o])
		}
	}
}

// P12.2: n and then m steps are n+m steps, however they are divided.
func TestDividedRuns(t *testing.T) {
	g := generator(3)
	divided := 0
	for range 20000 {
		x, before, b := g.image(), g.state(0), newMemory(g.below(300))
		n, m := g.below(12), g.below(12)
		c, whole := before, b.cloned()
		o, steps := c.Run(x, whole, n+m)
		d, parts := before, b.cloned()
		first, taken := d.Run(x, parts, n)
		if first == Running {
			var more int
			first, more = d.Run(x, parts, m)
			taken += more
			if more > 0 && n > 0 {
				divided++
			}
		}
		if o != first || steps != taken || c != d || !slices.Equal(whole.calls, parts.calls) {
			t.Fatalf("%v: outcome %d after %d steps, state %+v; in parts of %d and %d: %d after %d, %+v", x.Code, o, steps, c, n, m, first, taken, d)
		}
	}
	if divided < 3000 {
		t.Errorf("only %d runs are divided", divided)
	}
}

// P12.2: equal images, states and buses give equal calls, outcomes and states; other executions in between do not
// matter.
func TestDeterministic(t *testing.T) {
	g := generator(4)
	for range 10000 {
		x, before, b := g.image(), g.state(0), newMemory(g.below(300))
		limit := g.below(40)
		other, otherState := g.image(), g.state(0)
		c, first := before, b.cloned()
		o, n := c.Run(x, first, limit)
		otherState.Run(other, newMemory(100), 20)
		copied := cloned(x)
		d, second := before, b.cloned()
		p, m := d.Run(&copied, second, limit)
		if o != p || n != m || c != d || !slices.Equal(first.calls, second.calls) {
			t.Fatalf("%v: outcome %d after %d steps, state %+v, and then %d after %d, %+v", x.Code, o, n, c, p, m, d)
		}
	}
}

// P12.2: Save returns what Restore was given, if no location occurs more than once.
func TestRandomSaveRestore(t *testing.T) {
	g := generator(5)
	for range 20000 {
		locations := make([]int, 72)
		for i := range locations {
			other := g.below(i + 1)
			locations[i], locations[other] = locations[other], i
		}
		r := api.Region{Start: g.below(480), Live: locations[:g.below(73)]}
		var values []int16
		want := CPU{PC: r.Start}
		for _, n := range r.Live {
			v := g.word()
			values = append(values, v)
			if n < 8 {
				want.R[n] = v
			} else {
				want.Frame[n-8] = v
			}
		}
		c := g.state(3)
		if e := c.Restore(r, values); e != api.OK || c != want {
			t.Fatalf("Restore(%v, %v) = %d, %+v", r, values, e, c)
		}
		if saved := c.Save(r); !slices.Equal(saved, values) {
			t.Fatalf("Save(%v) = %v, want %v", r, saved, values)
		}
	}
}

// P12.1: Save and Restore of any integers compared with their definitions. Of a repeated location the last value
// counts.
func TestRandomLocations(t *testing.T) {
	g := generator(6)
	refused := 0
	for range 20000 {
		var live []int
		var values []int16
		invalid := false
		for range g.below(20) {
			n := g.below(72)
			if g.below(20) == 0 {
				n = pick(&g, integers())
			}
			invalid = invalid || n < 0 || n > 71
			live, values = append(live, n), append(values, g.word())
		}
		before := g.state(g.below(10))
		r := api.Region{Start: g.below(480), Live: live}
		for i, v := range before.Save(r) {
			if v != before.at(live[i]) {
				t.Fatalf("Save(%v): value %d is %d", live, i, v)
			}
		}
		c, want, e := before, before, api.ErrInvalid
		if !invalid {
			want, e = CPU{PC: r.Start}, api.OK
			for i, n := range live {
				if n < 8 {
					want.R[n] = values[i]
				} else {
					want.Frame[n-8] = values[i]
				}
			}
		} else {
			refused++
		}
		if got := c.Restore(r, values); got != e || c != want {
			t.Fatalf("Restore(%v, %v) = %d, %+v, want %d, %+v", r, values, got, c, e, want)
		}
	}
	if refused < 1000 {
		t.Errorf("only %d are refused", refused)
	}
}

// P12.2: an execution that is saved at any point where it still runs, and restored into another CPU, goes on as if
// nothing had happened.
func TestContinue(t *testing.T) {
	g := generator(7)
	var all []int
	for n := range 72 {
		all = append(all, n)
	}
	for range 5000 {
		x, c, b := g.image(), g.state(0), newMemory(g.below(300))
		o, _ := c.Run(x, b, g.below(12))
		if o == Trapped || o == Failed {
			continue
		}
		r := api.Region{Start: c.PC, Live: all}
		d, rest := g.state(9), b.cloned()
		if e := d.Restore(r, c.Save(r)); e != api.OK || c != d {
			t.Fatalf("Restore = %d, %+v, want %+v", e, d, c)
		}
		o, n := c.Run(x, b, 20)
		if p, m := d.Run(x, rest, 20); o != p || n != m || c != d || !slices.Equal(b.calls, rest.calls) {
			t.Fatalf("%v: outcome %d after %d steps, state %+v, and %d after %d, %+v", x.Code, o, n, c, p, m, d)
		}
	}
}
