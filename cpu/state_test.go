package cpu

import (
	"math"
	"slices"
	"testing"

	"trickle/api"
)

// P12.1: the chapter's example.
func TestExample(t *testing.T) {
	x := &api.Image{Code: []api.Code{
		{Op: api.OpMovI, A: 0, Imm: 5}, {Op: api.OpMovI, A: 1, Imm: 7}, {Op: api.OpMulR, A: 2, B: 0, C: 1}, {Op: api.OpHalt},
	}}
	var c CPU
	b := &recorder{}
	o, n := c.Run(x, b, 100)
	if o != Halted || n != 4 || c != (CPU{PC: 3, R: [8]int16{5, 7, 35}}) {
		t.Errorf("outcome %d after %d steps, state %+v", o, n, c)
	}
	if !slices.Equal(b.calls, slices.Repeat([]call{{"Spend", 1, 1}}, 4)) {
		t.Errorf("calls %v", b.calls)
	}
}

// P12.1: the zero value has PC 0 and zeroes everywhere, and is ready for use.
func TestZeroValue(t *testing.T) {
	c := CPU{}
	if c.PC != 0 || c.R != [8]int16{} || c.Frame != [64]int16{} || len(c.R) != api.Registers || len(c.Frame) != api.FrameSlots {
		t.Errorf("state %+v", c)
	}
	if o := c.Step(device(api.Code{Op: api.OpEqR}), &recorder{}); o != Running || c.R[0] != 1 || c.PC != 1 {
		t.Errorf("outcome %d, state %+v", o, c)
	}
}

// P12.1: Run with every limit around the number of steps that it takes to each outcome.
func TestRunLimits(t *testing.T) {
	nop := api.Code{Op: api.OpNop}
	for _, w := range []struct {
		last    api.Code
		outcome int
		fails   func(n int, method string) bool
	}{
		{api.Code{Op: api.OpHalt}, Halted, nil},
		{api.Code{Op: api.OpCommit, Imm: 3}, Commit, nil},
		{api.Code{Op: api.OpLoad, Imm: 2}, Trapped, nil},
		{api.Code{}, Trapped, nil},
		{api.Code{Op: api.OpEmit}, Failed, failsIn("Emit")},
		{api.Code{Op: api.OpHalt}, Failed, failsAt(5)},
	} {
		x := device(nop, nop, nop, nop, nop, w.last, nop, nop)
		for _, limit := range []int{math.MinInt, -1, 0, 1, 2, 3, 4, 5, 6, 7, 100, math.MaxInt} {
			c, b := filled(0), &recorder{fails: w.fails}
			steps, want := min(max(limit, 0), 6), Running
			if limit >= 6 {
				want = w.outcome
			}
			after := filled(steps)
			if limit >= 6 && want != Commit {
				after.PC = 5
			}
			if o, n := c.Run(x, b, limit); o != want || n != steps || c != after {
				t.Errorf("%v, limit %d: outcome %d after %d steps, PC %d, want %d after %d", w.last, limit, o, n, c.PC, want, steps)
			}
			if limit < 1 && b.calls != nil {
				t.Errorf("limit %d: calls %v", limit, b.calls)
			}
		}
	}
}

// P12.1: a run that never ends is stopped by its limit; the next run goes on from there.
func TestRunLoop(t *testing.T) {
	x := device(api.Code{Op: api.OpMovI, A: 1, Imm: 1}, api.Code{Op: api.OpAddR, A: 0, B: 0, C: 1}, api.Code{Op: api.OpJump})
	c, b := CPU{}, &recorder{}
	for n := 1; n <= 4; n++ {
		if o, steps := c.Run(x, b, 30000); o != Running || steps != 30000 || c.PC != 0 || c.R[0] != int16(10000*n) {
			t.Fatalf("outcome %d after %d steps, PC %d, R[0] %d", o, steps, c.PC, c.R[0])
		}
	}
	if len(b.calls) != 120000 {
		t.Errorf("%d calls", len(b.calls))
	}
	if o, steps := c.Run(x, b, 1); o != Running || steps != 1 || c.PC != 1 {
		t.Errorf("outcome %d after %d steps, PC %d", o, steps, c.PC)
	}
}

// P12.1: a run after an outcome begins with the step that it leads to.
func TestRunAgain(t *testing.T) {
	commit, halt := api.Code{Op: api.OpCommit}, api.Code{Op: api.OpHalt}
	x, c, b := device(commit, commit, halt, commit), CPU{}, &recorder{}
	for i, want := range []struct{ outcome, steps, pc int }{{Commit, 1, 1}, {Commit, 1, 2}, {Halted, 1, 2}, {Halted, 1, 2}} {
		if o, n := c.Run(x, b, 10); o != want.outcome || n != want.steps || c.PC != want.pc {
			t.Errorf("run %d: outcome %d after %d steps, PC %d", i, o, n, c.PC)
		}
	}
	c.PC = 4
	for range 2 {
		if o, n := c.Run(x, b, 10); o != Trapped || n != 1 || c.PC != 4 {
			t.Errorf("outcome %d after %d steps, PC %d", o, n, c.PC)
		}
	}
}

// at is the definition of the value of a location.
func (c CPU) at(n int) int16 {
	all := append(slices.Clone(c.R[:]), c.Frame[:]...)
	if n < 0 || n > 71 {
		return 0
	}
	return all[n]
}

// P12.1: Save of one location of every kind, and of any other integer.
func TestSaveLocations(t *testing.T) {
	c := filled(5)
	for n := -100; n <= 200; n++ {
		if v := c.Save(api.Region{Live: []int{n}}); len(v) != 1 || v[0] != c.at(n) {
			t.Errorf("location %d: %v, want %d", n, v, c.at(n))
		}
	}
	for _, w := range []struct {
		live   []int
		values []int16
	}{
		{nil, nil}, {[]int{}, nil}, {[]int{0}, []int16{1000}}, {[]int{7}, []int16{1119}}, {[]int{8}, []int16{-2000}}, {[]int{71}, []int16{-1181}},
		{[]int{-1}, []int16{0}}, {[]int{72}, []int16{0}}, {[]int{math.MinInt}, []int16{0}}, {[]int{math.MaxInt}, []int16{0}},
		{[]int{math.MinInt + 8, math.MaxInt - 7, 1 << 32, -1 << 32, 65536, 256}, []int16{0, 0, 0, 0, 0, 0}},
		{[]int{71, -1, 8, 72, 7, math.MaxInt, 0, math.MinInt}, []int16{-1181, 0, -2000, 0, 1119, 0, 1000, 0}},
		{[]int{3, 3, 9, 3, 9}, []int16{1051, 1051, -1987, 1051, -1987}},
		{[]int{72, 72, 2, 72}, []int16{0, 0, 1034, 0}},
	} {
		if v := c.Save(api.Region{Start: 9, Live: w.live}); !slices.Equal(v, w.values) {
			t.Errorf("Save(%v) = %v, want %v", w.live, v, w.values)
		}
	}
	if c != filled(5) {
		t.Errorf("the state becomes %+v", c)
	}
}

// P12.1: more values than a region may have are saved all the same.
func TestSaveMany(t *testing.T) {
	c := filled(0)
	var live []int
	for i := range 1000 {
		live = append(live, i%80)
	}
	v := c.Save(api.Region{Live: live})
	if len(v) != 1000 {
		t.Fatalf("%d values", len(v))
	}
	for i, n := range live {
		if v[i] != c.at(n) {
			t.Errorf("value %d is %d, want %d", i, v[i], c.at(n))
		}
	}
}

// checkRestore tests that Restore sets the pc and some locations, and zeroes everything else, whatever was before.
func checkRestore(t *testing.T, r api.Region, values []int16, want CPU) {
	t.Helper()
	for _, c := range []CPU{{}, {PC: 3}, filled(7), start()} {
		live, before := slices.Clone(r.Live), slices.Clone(values)
		if e := c.Restore(r, values); e != api.OK || c != want {
			t.Fatalf("Restore(%v, %v) = %d, %+v, want %+v", r, values, e, c, want)
		}
		if !slices.Equal(live, r.Live) || !slices.Equal(before, values) {
			t.Fatalf("the arguments become %v, %v, and were %v, %v", r.Live, values, live, before)
		}
	}
}

// P12.1: Restore of each location alone, of all, and of repeated ones.
func TestRestore(t *testing.T) {
	for n := range 72 {
		want := CPU{PC: 12}
		if n < 8 {
			want.R[n] = -9
		} else {
			want.Frame[n-8] = -9
		}
		checkRestore(t, api.Region{Start: 12, Live: []int{n}}, []int16{-9}, want)
	}
	all := filled(479)
	var live []int
	var values []int16
	for n := 71; n >= 0; n-- {
		live, values = append(live, n), append(values, all.at(n))
	}
	checkRestore(t, api.Region{Start: 479, Live: live}, values, all)
	checkRestore(t, api.Region{Start: 2}, nil, CPU{PC: 2})
	checkRestore(t, api.Region{Start: 2, Live: []int{}}, nil, CPU{PC: 2})
	checkRestore(t, api.Region{Start: 2}, []int16{}, CPU{PC: 2})
	checkRestore(t, api.Region{Live: []int{1, 1}}, []int16{5, 6}, CPU{R: [8]int16{0, 6}})
	checkRestore(t, api.Region{Live: []int{1, 1}}, []int16{5, 0}, CPU{})
	repeated := CPU{PC: 1, R: [8]int16{0, 0, 4, 0, 0, 3}}
	repeated.Frame[63] = 7
	checkRestore(t, api.Region{Start: 1, Live: []int{71, 2, 5, 2, 71, 5, 71}}, []int16{1, 9, 8, 4, 5, 3, 7}, repeated)
}

// P12.1: the start of a region is any integer; whether it is an address shows with the next step.
func TestRestoreStart(t *testing.T) {
	x := device(api.Code{Op: api.OpHalt})
	for _, pc := range integers() {
		checkRestore(t, api.Region{Start: pc, Live: []int{4}}, []int16{1}, CPU{PC: pc, R: [8]int16{4: 1}})
		c := filled(3)
		c.Restore(api.Region{Start: pc}, nil)
		if o := c.Step(x, &recorder{}); (o == Halted) != (pc == 0) || pc != 0 && o != Trapped {
			t.Errorf("start %d: outcome %d", pc, o)
		}
	}
}

// checkRefused tests that Restore returns ErrInvalid and changes nothing.
func checkRefused(t *testing.T, live []int, values []int16) {
	t.Helper()
	for _, before := range []CPU{{}, filled(7), start()} {
		for _, pc := range []int{0, 33, -1} {
			c := before
			if e := c.Restore(api.Region{Start: pc, Live: live}, values); e != api.ErrInvalid || c != before {
				t.Errorf("Restore(%v, %v) = %d, %+v, and before it %+v", live, values, e, c, before)
			}
		}
	}
}

// P12.1: lengths that differ.
func TestRestoreLengths(t *testing.T) {
	for n := range 20 {
		for m := range 20 {
			live, values := make([]int, n), make([]int16, m)
			for i := range live {
				live[i] = 3 * i
			}
			for i := range values {
				values[i] = int16(i + 1)
			}
			if n != m {
				checkRefused(t, live, values)
			}
		}
	}
	checkRefused(t, nil, []int16{0})
	checkRefused(t, []int{0}, nil)
	checkRefused(t, []int{0}, []int16{})
	checkRefused(t, []int{0, 0}, []int16{1})
	checkRefused(t, []int{-1}, []int16{1, 2})
}

// P12.1: an integer that is no location, at each place.
func TestRestoreNoLocation(t *testing.T) {
	for _, n := range append(integers(), 100, -100, 256, 1<<32+8) {
		if n >= 0 && n < 72 {
			continue
		}
		for length := 1; length <= 4; length++ {
			for place := range length {
				live, values := make([]int, length), make([]int16, length)
				for i := range live {
					live[i], values[i] = 5*i, int16(i+1)
				}
				live[place] = n
				checkRefused(t, live, values)
				if length > 1 {
					live[(place+1)%length] = n
					checkRefused(t, live, values)
				}
			}
		}
	}
}

// P12.1: the values may lie in the CPU itself, since Save and Restore keep none of their arguments.
func TestSharedMemory(t *testing.T) {
	c := filled(1)
	if e := c.Restore(api.Region{Start: 6, Live: []int{1, 0, 71}}, c.R[2:5]); e != api.OK {
		t.Fatalf("Restore = %d", e)
	}
	want := CPU{PC: 6, R: [8]int16{1051, 1034}}
	want.Frame[63] = 1068
	if c != want {
		t.Errorf("state %+v, want %+v", c, want)
	}
	live, values := []int{0, 9}, []int16{4, 5}
	if e := c.Restore(api.Region{Live: live}, values); e != api.OK {
		t.Fatalf("Restore = %d", e)
	}
	live[0], values[0], values[1] = 3, 7, 8
	saved := c.Save(api.Region{Live: []int{0, 9}})
	if !slices.Equal(saved, []int16{4, 5}) {
		t.Errorf("%v after the arguments of Restore changed", saved)
	}
	again := c.Save(api.Region{Live: []int{0, 9}})
	saved[0] = 9
	c.R[0] = 11
	if saved[1] != 5 || !slices.Equal(again, []int16{4, 5}) || c.at(9) != 5 {
		t.Errorf("%v, %v and %+v after one of them changed", saved, again, c)
	}
}
