package remanence

import (
	"math"
	"math/big"
	"slices"
	"testing"

	"trickle/api"
)

const last = api.MaxTime

// numbers are integers in ascending order: those next to 0 and to MaxTime, others of every size on both sides
// of the two, and those whose sums and differences do not fit into 64 bits.
func numbers() []int64 {
	return []int64{
		math.MinInt64, math.MinInt64 + 1, math.MinInt64 + last, math.MinInt64 / 2, -2 * last, -last - 1, -last, -1 << 32, -1000, -2, -1,
		0, 1, 2, 3, 50, 1000, 1 << 31, 1 << 32, last/2 - 1, last / 2, last/2 + 1, last - 2, last - 1, last,
		last + 1, last + 2, 2*last - 1, 2 * last, math.MaxInt64/2 + 1, math.MaxInt64 - last, math.MaxInt64 - 1, math.MaxInt64,
	}
}

// dividedNumbers returns the numbers that are times, and the others. Their places in the list, which is sorted,
// tell which is which.
func dividedNumbers() (valid, invalid []int64) {
	l := numbers()
	zero, end := slices.Index(l, 0), slices.Index(l, last)+1
	return l[zero:end], append(slices.Clone(l[:zero]), l[end:]...)
}

// of returns the interval with two bounds.
func of(lo, hi int64) api.Interval { return api.Interval{Lo: lo, Hi: hi} }

// divided returns the intervals of all pairs of numbers, those that are valid and the others.
func divided() (valid, invalid []api.Interval) {
	l := numbers()
	zero, most := slices.Index(l, 0), slices.Index(l, last)
	for i, lo := range l {
		for j, hi := range l {
			if zero <= i && i <= j && j <= most {
				valid = append(valid, of(lo, hi))
			} else {
				invalid = append(invalid, of(lo, hi))
			}
		}
	}
	return valid, invalid
}

// epochs are those at both ends of what can be restored.
func epochs() (valid, invalid []int) {
	return []int{0, 1, 2, 255, 256, 1<<31 - 2, 1<<31 - 1},
		[]int{math.MinInt, math.MinInt + 1, -1 << 32, -1 << 31, -2, -1, 1 << 31, 1<<31 + 1, 1 << 32, 1<<32 + 1, math.MaxInt - 1, math.MaxInt}
}

// exact returns the value of n as a number of any size.
func exact(n int64) *big.Int { return big.NewInt(n) }

// nearest returns the time that is nearest to x.
func nearest(x *big.Int) int64 {
	if x.Sign() < 0 {
		return 0
	}
	if x.Cmp(exact(last)) > 0 {
		return last
	}
	return x.Int64()
}

// sum returns the clamped sum of some numbers.
func sum(l ...int64) int64 {
	total := new(big.Int)
	for _, n := range l {
		total.Add(total, exact(n))
	}
	return nearest(total)
}

// clock returns a clock with a time and an epoch.
func clock(t *testing.T, x api.Interval, epoch int) *Clock {
	t.Helper()
	k, e := Restore(x, epoch)
	if k == nil || e != api.OK {
		t.Fatalf("Restore(%v, %d) = %v, %d", x, epoch, k, e)
	}
	check(t, k, x, epoch, "a restored clock")
	return k
}

// check compares what a clock tells.
func check(t *testing.T, k *Clock, x api.Interval, epoch int, text string) {
	t.Helper()
	if k.Now() != x || k.Epoch() != epoch {
		t.Fatalf("%s: Now() = %v, Epoch() = %d, want %v and %d", text, k.Now(), k.Epoch(), x, epoch)
	}
}

// P9.1, P9.2, P9.3: the chapter's examples.
func TestExamples(t *testing.T) {
	measured, ok, e := Measure(Config{Error: 100, Saturation: 1000}, 50)
	if measured != of(44, 56) || !ok || e != api.OK {
		t.Fatalf("Measure of 50 = %v, %v, %d", measured, ok, e)
	}
	var k Clock
	if e := k.Run(10); e != api.OK {
		t.Errorf("Run(10) = %d", e)
	}
	check(t, &k, of(10, 10), 0, "after Run(10)")
	then := k.Now()
	if e := k.Off(measured); e != api.OK {
		t.Errorf("Off(%v) = %d", measured, e)
	}
	check(t, &k, of(54, 66), 0, "after Off")
	if age, e := Age(k.Now(), then); age != of(44, 56) || e != api.OK {
		t.Errorf("Age = %v, %d", age, e)
	}
}

// measurement is a call of Measure with its result.
type measurement struct {
	c    Config
	off  int64
	want api.Interval
	ok   bool
}

// checkMeasurements tests some calls of Measure.
func checkMeasurements(t *testing.T, l []measurement) {
	t.Helper()
	for _, x := range l {
		if got, ok, e := Measure(x.c, x.off); got != x.want || ok != x.ok || e != api.OK {
			t.Errorf("Measure(%v, %d) = %v, %v, %d, want %v, %v", x.c, x.off, got, ok, e, x.want, x.ok)
		}
	}
}

// P9.1: measurements worked out by hand, at both ends of an error and an off time.
func TestMeasure(t *testing.T) {
	// With half of it added, this is the greatest even time whose measurement is not clamped.
	const most = 2 * ((last - 1) / 3)
	checkMeasurements(t, []measurement{
		{Config{0, last}, 0, of(0, 1), true},
		{Config{0, last}, 1, of(0, 2), true},
		{Config{0, last}, 2, of(1, 3), true},
		{Config{0, last}, last - 2, of(last-3, last-1), true},
		{Config{0, last}, last - 1, of(last-2, last), true},
		{Config{0, last}, last, of(last-1, last), true},
		// With a tenth, the deviation grows by one with every tenth tick.
		{Config{100, 1000}, 0, of(0, 1), true},
		{Config{100, 1000}, 1, of(0, 2), true},
		{Config{100, 1000}, 9, of(8, 10), true},
		{Config{100, 1000}, 10, of(8, 12), true},
		{Config{100, 1000}, 11, of(9, 13), true},
		{Config{100, 1000}, 19, of(17, 21), true},
		{Config{100, 1000}, 20, of(17, 23), true},
		{Config{100, 1000}, 49, of(44, 54), true},
		{Config{100, 1000}, 50, of(44, 56), true},
		{Config{100, 1000}, 999, of(899, 1099), true},
		{Config{100, 1000}, 1000, of(899, 1101), true},
		{Config{100, 1000}, 1001, of(1000, last), false},
		{Config{100, 1000}, last, of(1000, last), false},
		{Config{1, 3000}, 999, of(998, 1000), true},
		{Config{1, 3000}, 1000, of(998, 1002), true},
		{Config{1, 3000}, 1999, of(1997, 2001), true},
		{Config{1, 3000}, 2000, of(1997, 2003), true},
		{Config{333, 3000}, 3, of(2, 4), true},
		{Config{333, 3000}, 4, of(2, 6), true},
		{Config{333, 3000}, 1000, of(666, 1334), true},
		{Config{333, 3000}, 1001, of(667, 1335), true},
		{Config{499, last}, last, of(last-last*499/1000-1, last), true},
		{Config{500, last}, 0, of(0, 1), true},
		{Config{500, last}, 1, of(0, 2), true},
		{Config{500, last}, 2, of(0, 4), true},
		{Config{500, last}, 3, of(1, 5), true},
		{Config{500, last}, 4, of(1, 7), true},
		{Config{500, last}, most - 1, of(most/2-1, last-2), true},
		{Config{500, last}, most, of(most/2-1, last), true},
		{Config{500, last}, most + 1, of(most/2, last), true},
		{Config{500, last}, last - 1, of(last/2-1, last), true},
		{Config{500, last}, last, of(last/2-1, last), true},
	})
}

// P9.1: the least saturation and the greatest ones, worked out by hand.
func TestMeasureSaturated(t *testing.T) {
	checkMeasurements(t, []measurement{
		{Config{500, 1}, 0, of(0, 1), true},
		{Config{500, 1}, 1, of(0, 2), true},
		{Config{500, 1}, 2, of(1, last), false},
		{Config{0, 1}, 3, of(1, last), false},
		{Config{0, 1}, last, of(1, last), false},
		{Config{0, last - 1}, last - 1, of(last-2, last), true},
		{Config{0, last - 1}, last, of(last-1, last), false},
		{Config{500, last - 1}, last - 1, of(last/2-1, last), true},
		{Config{500, last - 1}, last, of(last-1, last), false},
	})
}

// measure is the definition, for valid arguments, with numbers of any size.
func measure(c Config, off int64) (api.Interval, bool) {
	if off > c.Saturation {
		return of(c.Saturation, last), false
	}
	d := new(big.Int).Mul(exact(off), exact(int64(c.Error)))
	d.Quo(d, exact(1000))
	lo := new(big.Int).Sub(exact(off-1), d)
	hi := new(big.Int).Add(exact(off+1), d)
	return of(nearest(lo), nearest(hi)), true
}

// checkMeasure compares a measurement with the definition.
func checkMeasure(t *testing.T, c Config, off int64) {
	t.Helper()
	want, ok := measure(c, off)
	if x, y, e := Measure(c, off); x != want || y != ok || e != api.OK {
		t.Fatalf("Measure(%v, %d) = %v, %v, %d, want %v, %v", c, off, x, y, e, want, ok)
	}
}

// errorRates are the numbers at and around the ends of what is a valid Error, and of all integers.
func errorRates() (valid, invalid []int) {
	return []int{0, 1, 2, 100, 333, 499, 500},
		[]int{math.MinInt, math.MinInt + 1, -1 << 32, -1<<32 + 100, -1000, -500, -100, -2, -1, 501, 502, 1000, 1 << 32, 1<<32 + 100, math.MaxInt - 1, math.MaxInt}
}

// P9.1: every condition for ErrInvalid, alone and with others, and valid arguments next to it.
func TestMeasureInvalid(t *testing.T) {
	validErrors, invalidErrors := errorRates()
	validTimes, invalidTimes := dividedNumbers()
	invalid := func(c Config, off int64) {
		if x, ok, e := Measure(c, off); x != of(0, 0) || ok || e != api.ErrInvalid {
			t.Errorf("Measure(%v, %d) = %v, %v, %d", c, off, x, ok, e)
		}
	}
	for _, off := range numbers() {
		for _, saturation := range numbers() {
			for _, n := range invalidErrors {
				invalid(Config{n, saturation}, off)
			}
		}
		for _, n := range validErrors {
			for _, saturation := range append(invalidTimes, 0) {
				invalid(Config{n, saturation}, off)
			}
		}
	}
	for _, n := range validErrors {
		for _, saturation := range validTimes[1:] {
			for _, off := range invalidTimes {
				invalid(Config{n, saturation}, off)
			}
			for _, off := range validTimes {
				checkMeasure(t, Config{n, saturation}, off)
			}
		}
	}
	invalid(Config{}, 0)
	invalid(Config{}, 1)
}

// P9.1: every error with every short off time; the deviation is counted, one more whenever another 1000
// thousandths are there.
func TestMeasureShort(t *testing.T) {
	for n := range 501 {
		d, rest := int64(0), 0
		for off := range int64(2100) {
			want := of(max(0, off-d-1), off+d+1)
			if x, ok, e := Measure(Config{n, last}, off); x != want || !ok || e != api.OK {
				t.Fatalf("Error %d: Measure of %d = %v, %v, %d, want %v", n, off, x, ok, e, want)
			}
			rest += n
			if rest >= 1000 {
				d, rest = d+1, rest-1000
			}
		}
	}
}

// P9.1: off times of exactly Saturation, one less and one more, and those next to 0 and to MaxTime.
func TestMeasureSaturation(t *testing.T) {
	for n := range 501 {
		for _, saturation := range []int64{1, 2, 3, 10, 999, 1000, 1001, 1 << 31, 1 << 32, last / 2, last/3*2 - 1, last / 3 * 2, last - 2, last - 1, last} {
			c := Config{n, saturation}
			for _, off := range []int64{0, 1, 2, saturation - 1, saturation, saturation + 1, saturation + 2, last - 1, last} {
				if off > last {
					continue
				}
				checkMeasure(t, c, off)
				if _, ok, _ := Measure(c, off); ok != (off <= saturation) {
					t.Errorf("Measure(%v, %d): %v", c, off, ok)
				}
			}
		}
	}
}

// config returns a valid configuration of any size.
func (g *generator) config() Config {
	n, saturation := g.below(501), 1+g.upTo(last-1)
	switch g.below(6) {
	case 0:
		n = 0
	case 1:
		n = 500
	case 2:
		saturation = last
	}
	return Config{n, saturation}
}

// P9.1, P9.4: random off times of every size agree with the definition, and a measurement is a valid interval that
// contains the true time.
func TestMeasureRandom(t *testing.T) {
	g := generator(1)
	counts := map[bool]int{}
	for range 200000 {
		c, off := g.config(), g.upTo(last)
		if g.below(5) == 0 {
			off = min(last, max(0, c.Saturation-5+g.upTo(10)))
		}
		checkMeasure(t, c, off)
		x, ok, _ := Measure(c, off)
		if x.Lo < 0 || x.Lo > off || x.Hi < off || x.Hi > last {
			t.Fatalf("Measure(%v, %d) = %v", c, off, x)
		}
		counts[ok]++
	}
	if counts[true] < 50000 || counts[false] < 50000 {
		t.Errorf("saturated and not: %v", counts)
	}
}

// P9.2: a clock that nothing was done to is at 0 in epoch 0, and can be used like any other.
func TestZeroClock(t *testing.T) {
	for name, f := range map[string]func(k *Clock){
		"Run":      func(k *Clock) { k.Run(0) },
		"Off":      func(k *Clock) { k.Off(of(0, 0)) },
		"an error": func(k *Clock) { k.Saturate(of(1, 0)) },
		"nothing":  func(k *Clock) {},
	} {
		for _, k := range []*Clock{{}, new(Clock), clock(t, of(0, 0), 0)} {
			check(t, k, of(0, 0), 0, "a new clock")
			f(k)
			check(t, k, of(0, 0), 0, name)
		}
	}
	var a, b, c Clock
	if a.Run(last) != api.OK || b.Off(of(3, 9)) != api.OK || c.Saturate(of(3, 9)) != api.OK {
		t.Error("a new clock returns an error")
	}
	check(t, &a, of(last, last), 0, "Run of a new clock")
	check(t, &b, of(3, 9), 0, "Off of a new clock")
	check(t, &c, of(3, 3), 1, "Saturate of a new clock")
}

// P9.2: Run at clocks of every time, with every number of ticks.
func TestRun(t *testing.T) {
	starts, _ := divided()
	valid, invalid := dividedNumbers()
	for _, x := range starts {
		for i, ticks := range valid {
			k := clock(t, x, i)
			if e := k.Run(ticks); e != api.OK {
				t.Fatalf("%v: Run(%d) = %d", x, ticks, e)
			}
			check(t, k, of(sum(x.Lo, ticks), sum(x.Hi, ticks)), i, "Run")
		}
		for i, ticks := range invalid {
			k := clock(t, x, i)
			if e := k.Run(ticks); e != api.ErrInvalid {
				t.Fatalf("%v: Run(%d) = %d", x, ticks, e)
			}
			check(t, k, x, i, "Run of an invalid number of ticks")
		}
	}
}

// P9.2: Run near the end of time, worked out by hand.
func TestRunClamped(t *testing.T) {
	for _, x := range []struct {
		start api.Interval
		ticks int64
		want  api.Interval
	}{
		{of(0, 0), 0, of(0, 0)},
		{of(0, 0), 1, of(1, 1)},
		{of(0, 0), last - 1, of(last-1, last-1)},
		{of(0, 0), last, of(last, last)},
		{of(1, 1), last - 1, of(last, last)},
		{of(1, 1), last, of(last, last)},
		{of(0, 1), last, of(last, last)},
		{of(0, 2), last - 1, of(last-1, last)},
		{of(3, 5), 7, of(10, 12)},
		{of(3, last), 7, of(10, last)},
		{of(last-5, last-3), 2, of(last-3, last-1)},
		{of(last-5, last-3), 3, of(last-2, last)},
		{of(last-5, last-3), 4, of(last-1, last)},
		{of(last-5, last-3), 5, of(last, last)},
		{of(last-5, last-3), 6, of(last, last)},
		{of(last, last), 0, of(last, last)},
		{of(last, last), 1, of(last, last)},
		{of(last, last), last, of(last, last)},
	} {
		k := clock(t, x.start, 3)
		if e := k.Run(x.ticks); e != api.OK {
			t.Errorf("%v: Run(%d) = %d", x.start, x.ticks, e)
		}
		check(t, k, x.want, 3, "Run")
	}
}

// P9.2: Off and Saturate of every valid interval, at clocks of every time.
func TestOffAndSaturate(t *testing.T) {
	valid, _ := divided()
	for i, x := range valid {
		for j, y := range valid {
			epoch := (i + j) % 5
			k := clock(t, x, epoch)
			if e := k.Off(y); e != api.OK {
				t.Fatalf("%v: Off(%v) = %d", x, y, e)
			}
			lo := sum(x.Lo, y.Lo)
			check(t, k, of(lo, sum(x.Hi, y.Hi)), epoch, "Off")
			k = clock(t, x, epoch)
			if e := k.Saturate(y); e != api.OK {
				t.Fatalf("%v: Saturate(%v) = %d", x, y, e)
			}
			check(t, k, of(lo, lo), epoch+1, "Saturate")
		}
	}
}

// P9.2: an interval that is not valid changes neither the time nor the epoch, whatever they are, and the clock goes
// on as if nothing had been done to it.
func TestOffAndSaturateInvalid(t *testing.T) {
	_, invalid := divided()
	for _, start := range []api.Interval{of(0, 0), of(0, 1), of(1000, 2000), of(0, last), of(5, last-1), of(last-1, last-1), of(last-1, last), of(last, last)} {
		for _, epoch := range []int{0, 1, 1<<31 - 1} {
			k := clock(t, start, epoch)
			for _, x := range invalid {
				if e := k.Off(x); e != api.ErrInvalid {
					t.Fatalf("%v: Off(%v) = %d", start, x, e)
				}
				check(t, k, start, epoch, "Off of an interval that is not valid")
				if e := k.Saturate(x); e != api.ErrInvalid {
					t.Fatalf("%v: Saturate(%v) = %d", start, x, e)
				}
				check(t, k, start, epoch, "Saturate of an interval that is not valid")
			}
			if k.Off(of(3, 8)) != api.OK {
				t.Errorf("%v: Off after errors", start)
			}
			check(t, k, of(sum(start.Lo, 3), sum(start.Hi, 8)), epoch, "Off after errors")
		}
	}
	// Each condition of an interval alone.
	for _, x := range []api.Interval{of(6, 5), of(1, 0), of(last, last-1), of(-1, 0), of(-1, -1), of(-1, last), of(last, last+1), of(0, last+1), of(last+1, last+1)} {
		var k Clock
		if k.Off(x) != api.ErrInvalid || k.Saturate(x) != api.ErrInvalid {
			t.Errorf("%v is accepted", x)
		}
		check(t, &k, of(0, 0), 0, "an interval that is not valid")
	}
}

// P9.2: saturated measurements of a clock whose bounds differ, one after the other, and up to the end of time.
func TestSaturateTwice(t *testing.T) {
	k := clock(t, of(10, 20), 0)
	steps := []struct {
		f     func(api.Interval) api.Errno
		x     api.Interval
		want  api.Interval
		epoch int
	}{
		{k.Saturate, of(5, 100), of(15, 15), 1},
		{k.Saturate, of(0, last), of(15, 15), 2},
		{k.Saturate, of(0, 0), of(15, 15), 3},
		{k.Off, of(1, 4), of(16, 19), 3},
		{k.Saturate, of(1000, last), of(1016, 1016), 4},
		{k.Saturate, of(1000, last), of(2016, 2016), 5},
		{k.Off, of(0, last), of(2016, last), 5},
		{k.Saturate, of(4, last), of(2020, 2020), 6},
		{k.Off, of(last-2025, last-2021), of(last-5, last-1), 6},
		{k.Saturate, of(3, 3), of(last-2, last-2), 7},
		{k.Saturate, of(1, last), of(last-1, last-1), 8},
		{k.Off, of(0, 3), of(last-1, last), 8},
		{k.Saturate, of(0, 7), of(last-1, last-1), 9},
		{k.Saturate, of(1, 1), of(last, last), 10},
		{k.Saturate, of(7, last), of(last, last), 11},
		{k.Saturate, of(last, last), of(last, last), 12},
		{k.Off, of(0, 1), of(last, last), 12},
	}
	for i, x := range steps {
		if e := x.f(x.x); e != api.OK {
			t.Errorf("step %d: %d", i, e)
		}
		check(t, k, x.want, x.epoch, "a step")
	}
}

// P9.2: clocks do not change each other, and a time that was read does not change.
func TestClocksApart(t *testing.T) {
	a := clock(t, of(10, 20), 1)
	b := clock(t, a.Now(), a.Epoch())
	c := *a
	before := a.Now()
	a.Off(of(1, 2))
	a.Saturate(of(3, 4))
	check(t, a, of(14, 14), 2, "the clock that was advanced")
	check(t, b, of(10, 20), 1, "a clock with the same time")
	check(t, &c, of(10, 20), 1, "a copy")
	before.Lo = 0
	if x := a.Now(); x != of(14, 14) || before != of(0, 20) {
		t.Errorf("Now() = %v, %v before", x, before)
	}
}

// P9.3: ages worked out by hand.
func TestAge(t *testing.T) {
	for _, x := range []struct {
		now, then, want api.Interval
		e               api.Errno
	}{
		{of(54, 66), of(10, 10), of(44, 56), api.OK},
		{of(54, 66), of(50, 60), of(4, 6), api.OK},
		{of(54, 66), of(50, 62), of(4, 4), api.OK},
		{of(54, 66), of(54, 65), of(0, 1), api.OK},
		// Equal readings, also at both ends of time.
		{of(54, 66), of(54, 66), of(0, 0), api.OK},
		{of(0, 0), of(0, 0), of(0, 0), api.OK},
		{of(0, last), of(0, last), of(0, 0), api.OK},
		{of(last, last), of(last, last), of(0, 0), api.OK},
		{of(last, last), of(0, 0), of(last, last), api.OK},
		{of(0, last), of(0, 0), of(0, last), api.OK},
		{of(last, last), of(0, last), of(0, 0), api.ErrInvalid},
		// The wrong order.
		{of(10, 10), of(54, 66), of(0, 0), api.ErrInvalid},
		{of(9, 10), of(10, 10), of(0, 0), api.ErrInvalid},
		{of(9, 9), of(10, 10), of(0, 0), api.ErrInvalid},
		{of(0, 0), of(0, 1), of(0, 0), api.ErrInvalid},
		{of(0, 0), of(last, last), of(0, 0), api.ErrInvalid},
		// Both are valid, but only one bound increased, or the upper one by less than the lower one.
		{of(53, 80), of(54, 66), of(0, 0), api.ErrInvalid},
		{of(60, 65), of(54, 66), of(0, 0), api.ErrInvalid},
		{of(60, 71), of(54, 66), of(0, 0), api.ErrInvalid},
		{of(60, 72), of(54, 66), of(6, 6), api.OK},
		{of(10, last), of(5, last), of(0, 0), api.ErrInvalid},
		{of(10, last), of(5, last-4), of(0, 0), api.ErrInvalid},
		{of(10, last), of(5, last-5), of(5, 5), api.OK},
		// One of them is not valid, though the differences are a valid interval.
		{of(10, 9), of(5, 1), of(0, 0), api.ErrInvalid},
		{of(10, 19), of(5, 4), of(0, 0), api.ErrInvalid},
		{of(10, 9), of(5, 5), of(0, 0), api.ErrInvalid},
		{of(10, 19), of(-1, 4), of(0, 0), api.ErrInvalid},
		{of(-1, 19), of(-1, 4), of(0, 0), api.ErrInvalid},
		{of(-1, -1), of(-1, -1), of(0, 0), api.ErrInvalid},
		{of(10, last+1), of(5, 10), of(0, 0), api.ErrInvalid},
		{of(10, last+1), of(5, last), of(0, 0), api.ErrInvalid},
		{of(last+1, last+1), of(last, last), of(0, 0), api.ErrInvalid},
		{of(last+1, last+1), of(last+1, last+1), of(0, 0), api.ErrInvalid},
		{of(10, last), of(5, last+1), of(0, 0), api.ErrInvalid},
		// The differences are a valid interval only because they overflow.
		{of(math.MinInt64, math.MinInt64), of(math.MaxInt64, math.MaxInt64), of(0, 0), api.ErrInvalid},
		{of(math.MinInt64, 7), of(math.MaxInt64, 5), of(0, 0), api.ErrInvalid},
		{of(0, math.MinInt64+1), of(0, math.MaxInt64), of(0, 0), api.ErrInvalid},
	} {
		if got, e := Age(x.now, x.then); got != x.want || e != x.e {
			t.Errorf("Age(%v, %v) = %v, %d, want %v, %d", x.now, x.then, got, e, x.want, x.e)
		}
	}
}

// age is the definition, for valid arguments, with numbers of any size.
func age(now, then api.Interval) (api.Interval, api.Errno) {
	lo := new(big.Int).Sub(exact(now.Lo), exact(then.Lo))
	hi := new(big.Int).Sub(exact(now.Hi), exact(then.Hi))
	if lo.Sign() < 0 || lo.Cmp(hi) > 0 || hi.Cmp(exact(last)) > 0 {
		return of(0, 0), api.ErrInvalid
	}
	return of(lo.Int64(), hi.Int64()), api.OK
}

// P9.3: all pairs of intervals whose bounds are some numbers; one that is not valid is an error at either place.
func TestAgeOfAll(t *testing.T) {
	valid, invalid := divided()
	test := func(now, then, want api.Interval, wantError api.Errno) {
		if got, e := Age(now, then); got != want || e != wantError {
			t.Fatalf("Age(%v, %v) = %v, %d, want %v, %d", now, then, got, e, want, wantError)
		}
	}
	for _, x := range valid {
		for _, y := range valid {
			want, e := age(x, y)
			test(x, y, want, e)
		}
		for _, y := range invalid {
			test(x, y, of(0, 0), api.ErrInvalid)
			test(y, x, of(0, 0), api.ErrInvalid)
		}
	}
	for _, x := range invalid {
		for _, y := range invalid {
			test(x, y, of(0, 0), api.ErrInvalid)
		}
	}
}

// P9.3: all pairs of short intervals, at both ends of time.
func TestAgeShort(t *testing.T) {
	for _, start := range []int64{0, last - 6} {
		var l []api.Interval
		for lo := start; lo <= start+6; lo++ {
			for hi := lo; hi <= start+6; hi++ {
				l = append(l, of(lo, hi))
			}
		}
		for _, now := range l {
			for _, then := range l {
				want, e := age(now, then)
				if got, gotError := Age(now, then); got != want || gotError != e {
					t.Fatalf("Age(%v, %v) = %v, %d, want %v, %d", now, then, got, gotError, want, e)
				}
			}
		}
	}
}

// P9.2: every condition for ErrInvalid of Restore, and all intervals and epochs next to it.
func TestRestore(t *testing.T) {
	validTimes, invalidTimes := divided()
	validEpochs, invalidEpochs := epochs()
	invalid := func(x api.Interval, epoch int) {
		if k, e := Restore(x, epoch); k != nil || e != api.ErrInvalid {
			t.Fatalf("Restore(%v, %d) = %v, %d", x, epoch, k, e)
		}
	}
	for _, x := range validTimes {
		for _, epoch := range validEpochs {
			clock(t, x, epoch)
		}
		for _, epoch := range invalidEpochs {
			invalid(x, epoch)
		}
	}
	for _, x := range invalidTimes {
		for _, epoch := range append(validEpochs, invalidEpochs...) {
			invalid(x, epoch)
		}
	}
}

// P9.2: a clock that is restored with the last epoch can be used like any other; the epoch after it can be reached,
// but not restored.
func TestRestoreLastEpoch(t *testing.T) {
	const lastEpoch = 1<<31 - 1
	a := clock(t, of(10, 20), lastEpoch-1)
	a.Saturate(of(5, 9))
	check(t, a, of(15, 15), lastEpoch, "saturated in the epoch before the last one")
	b := clock(t, a.Now(), a.Epoch())
	for _, k := range []*Clock{a, b} {
		k.Off(of(1, 3))
		check(t, k, of(16, 18), lastEpoch, "in the last epoch")
		if e := k.Saturate(of(4, 6)); e != api.OK {
			t.Errorf("Saturate in the last epoch: %d", e)
		}
		check(t, k, of(20, 20), lastEpoch+1, "saturated in the last epoch")
		if x, e := Restore(k.Now(), k.Epoch()); x != nil || e != api.ErrInvalid {
			t.Errorf("Restore with epoch %d = %v, %d", k.Epoch(), x, e)
		}
		if k.Run(5) != api.OK || k.Off(of(0, 2)) != api.OK || k.Saturate(of(1, 1)) != api.OK {
			t.Error("an error after the last epoch")
		}
		check(t, k, of(26, 26), lastEpoch+2, "after the last epoch")
	}
}
