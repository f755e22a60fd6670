package cpu

import (
	"maps"
	"slices"
	"strings"
	"testing"

	"trickle/api"
	"trickle/isa"
)

// assembled returns the code of a program with one instruction a line.
func assembled(t *testing.T, program string) []api.Code {
	t.Helper()
	var l []api.Code
	for line := range strings.Lines(program) {
		c, e := isa.Parse(strings.TrimSpace(line))
		if e != api.OK {
			t.Fatalf("%q: %d", line, e)
		}
		l = append(l, c)
	}
	return l
}

// plenty is more energy than any of the programs uses.
const plenty = 1 << 30

// P12.1: Euclid's algorithm on the words at two addresses.
func TestGreatestCommonDivisor(t *testing.T) {
	x := device(assembled(t, `load r0, 2560
		load r1, 2562
		jumpz r1, 7
		mod r2, r0, r1
		mov r0, r1
		mov r1, r2
		jump 2
		store r0, 2564
		halt`)...)
	divisor := func(a, b int) int {
		for b != 0 {
			a, b = b, a%b
		}
		return a
	}
	for a := 0; a < 300; a += 7 {
		for b := 0; b < 300; b += 5 {
			m, c := newMemory(plenty), CPU{}
			m.words[2560], m.words[2562] = int16(a), int16(b)
			o, _ := c.Run(x, m, 1000)
			if v := m.words[2564]; o != Halted || c.PC != 8 || int(v) != divisor(a, b) {
				t.Fatalf("%d and %d: outcome %d, %d", a, b, o, v)
			}
		}
	}
}

// P12.1: all elements of an array are replaced by their running sums, each logged before it is stored, and the sums
// are kept in the frame.
func TestRunningSums(t *testing.T) {
	x := device(assembled(t, `movi r7, 0
		spill r7, 9
		movi r0, 0
		movi r1, 5
		lt r2, r0, r1
		jumpz r2, 16
		index r3, r0, 1
		logx r3
		loadx r4, r3
		fill r5, 9
		add r5, r5, r4
		storex r5, r3
		spill r5, 9
		movi r6, 1
		add r0, r0, r6
		jump 4
		halt`)...)
	m := newMemory(plenty)
	before := []int16{3, -4, 32767, 10, 100}
	for i, v := range before {
		m.words[2562+2*i] = v
	}
	c := CPU{}
	o, n := c.Run(x, m, 1000)
	if want := map[int]int16{2562: 3, 2564: -1, 2566: 32766, 2568: -32760, 2570: -32660}; o != Halted || n != 4+5*12+2+1 || !maps.Equal(m.words, want) {
		t.Errorf("outcome %d after %d steps, %v, want %v", o, n, m.words, want)
	}
	var accesses []call
	for _, k := range m.calls {
		if k.method != "Spend" {
			accesses = append(accesses, k)
		}
	}
	sum := int16(0)
	var want []call
	for i, v := range before {
		sum += v
		addr := 2562 + 2*i
		want = append(want, call{"Log", addr, 0}, call{"Load", addr, 0}, call{"Store", addr, int(sum)})
	}
	if !slices.Equal(accesses, want) {
		t.Errorf("%v, want %v", accesses, want)
	}
	// The memory accounts for the writes: 5 bytes of each log entry, and 2 of each word.
	if used := plenty - m.energy; used != n+5*(5+2) {
		t.Errorf("%d units of energy in %d steps", used, n)
	}
}

// P12.1, P12.2: a task of two regions, in which the power fails at every possible amount of energy. The attempt that
// has enough of it continues from the values that the commit saved.
func TestRegions(t *testing.T) {
	x := device(assembled(t, `read r0, 1
		movi r1, 50
		lt r2, r1, r0
		jumpz r2, 7
		spill r0, 4
		send r0, 2
		commit 1
		nop
		fill r3, 4
		add r3, r3, r3
		emit r3
		out r1, 1
		halt`)...)
	next := api.Region{Start: 7, Live: []int{1, 12}}
	const first, second = 8 + 1 + 1 + 1 + 1 + 2 + 8 + 2, 1 + 1 + 1 + 2 + 2 + 2 + 4 + 1
	for energy := range first + 3 {
		m, c := newMemory(energy), CPU{}
		o, n := c.Run(x, m, 100)
		if energy < first {
			if o != Failed {
				t.Errorf("energy %d: outcome %d after %d steps", energy, o, n)
			}
			continue
		}
		if o != Commit || n != 7 || m.calls[1] != (call{"Read", 1, 0}) || m.calls[7] != (call{"Send", 2, 101}) {
			t.Fatalf("energy %d: outcome %d after %d steps, calls %v", energy, o, n, m.calls)
		}
	}
	m, c := newMemory(first), CPU{}
	c.Run(x, m, 100)
	values := c.Save(next)
	if !slices.Equal(values, []int16{50, 101}) {
		t.Fatalf("the values are %v", values)
	}
	for energy := range second + 3 {
		m, c := newMemory(energy), filled(3)
		if e := c.Restore(next, values); e != api.OK {
			t.Fatalf("Restore = %d", e)
		}
		o, n := c.Run(x, m, 100)
		if energy < second {
			if o != Failed {
				t.Errorf("energy %d: outcome %d after %d steps", energy, o, n)
			}
			continue
		}
		want := []call{{"Spend", 1, 1}, {"Spend", 1, 1}, {"Spend", 1, 1}, {"Spend", 2, 2}, {"Emit", 202, 0}, {"Spend", 2, 2}, {"Output", 1, 50}, {"Spend", 1, 1}}
		if o != Halted || n != 6 || c.PC != 12 || !slices.Equal(m.calls, want) {
			t.Fatalf("energy %d: outcome %d after %d steps, calls %v", energy, o, n, m.calls)
		}
	}
}
