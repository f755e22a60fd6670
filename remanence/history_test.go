package remanence

import (
	"math/big"
	"testing"

	"trickle/api"
)

// generator makes numbers that follow no simple rule. Its value is never 0.
type generator uint64

// below returns a number from 0 to n-1.
func (g *generator) below(n int) int {
	*g ^= *g << 13
	*g ^= *g >> 7
	*g ^= *g << 17
	return int((uint64(*g) >> 20) % uint64(n))
}

// pick returns one of some values.
func pick[T any](g *generator, l []T) T { return l[g.below(len(l))] }

// upTo returns a number from 0 to n, which has any number of digits with about the same frequency.
func (g *generator) upTo(n int64) int64 {
	return min(int64(g.below(1<<g.below(42))), n)
}

// interval returns a valid interval with bounds of at most n.
func (g *generator) interval(n int64) api.Interval {
	a, b := g.upTo(n), g.upTo(n)
	if g.below(3) == 0 {
		b = min(a+g.upTo(100), n)
	}
	return of(min(a, b), max(a, b))
}

// plain is a clock as the chapter defines it. It keeps what was done to it, and the time follows from all of it.
type plain struct {
	start   api.Interval
	epoch   int
	history []step
}

// step is what was done to a clock without an error.
type step struct {
	x         api.Interval
	saturated bool
}

// read returns the time and the epoch. The sums have any size, so that only what is told at the end is clamped.
func (p *plain) read() (api.Interval, int) {
	lo, hi, epoch := exact(p.start.Lo), exact(p.start.Hi), p.epoch
	for _, s := range p.history {
		lo.Add(lo, exact(s.x.Lo))
		hi.Add(hi, exact(s.x.Hi))
		if s.saturated {
			hi = new(big.Int).Set(lo)
			epoch++
		}
	}
	return of(nearest(lo), nearest(hi)), epoch
}

// do notes a step, if its interval is valid.
func (p *plain) do(s step) api.Errno {
	if s.x.Lo < 0 || s.x.Hi < s.x.Lo || s.x.Hi > 1099511627776 {
		return api.ErrInvalid
	}
	p.history = append(p.history, s)
	return api.OK
}

// checkPlain compares what a clock tells with the plain one.
func checkPlain(t *testing.T, k *Clock, p *plain) {
	t.Helper()
	x, epoch := p.read()
	check(t, k, x, epoch, "compared with the plain clock")
}

// operate does the same to both clocks.
func operate(t *testing.T, g *generator, k *Clock, p *plain, most int64, invalid []api.Interval) {
	t.Helper()
	x := g.interval(most)
	if g.below(4) == 0 {
		x = pick(g, invalid)
	}
	var got, want api.Errno
	switch g.below(5) {
	case 0, 1:
		got, want = k.Run(x.Lo), p.do(step{of(x.Lo, x.Lo), false})
	case 2, 3:
		got, want = k.Off(x), p.do(step{x, false})
	default:
		got, want = k.Saturate(x), p.do(step{x, true})
	}
	if got != want {
		t.Fatalf("%v: an operation with %v: %d, want %d", p, x, got, want)
	}
}

// P9.2: any sequence of operations, with arguments of every kind, agrees with a clock that is kept plainly; a clock
// that is restored from what a clock tells behaves like it from there on.
func TestOperations(t *testing.T) {
	g := generator(2)
	_, invalid := divided()
	validEpochs, _ := epochs()
	clamped := 0
	for range 6000 {
		k, p := &Clock{}, &plain{}
		if g.below(2) == 0 {
			p = &plain{start: g.interval(last), epoch: pick(&g, validEpochs)}
			k = clock(t, p.start, p.epoch)
		}
		most := int64(1) << g.below(41)
		for range 30 {
			operate(t, &g, k, p, most, invalid)
			checkPlain(t, k, p)
			if restored, e := Restore(k.Now(), k.Epoch()); e == api.OK && g.below(4) == 0 {
				k = restored
			}
		}
		if k.Now().Hi == last {
			clamped++
		}
	}
	if clamped < 1000 || clamped > 5000 {
		t.Errorf("%d clocks reached the end of time", clamped)
	}
}

// P9.2: a clock and one that is restored from what it tells go through the same steps.
func TestRestoredClock(t *testing.T) {
	g := generator(3)
	valid, invalid := divided()
	validEpochs, _ := epochs()
	for range 6000 {
		a := clock(t, pick(&g, valid), pick(&g, validEpochs))
		for range g.below(10) {
			a.Off(g.interval(1 << g.below(41)))
		}
		b := clock(t, a.Now(), a.Epoch())
		for range 10 {
			x := g.interval(1 << g.below(41))
			if g.below(4) == 0 {
				x = pick(&g, invalid)
			}
			f, h := a.Off, b.Off
			if g.below(3) == 0 {
				f, h = a.Saturate, b.Saturate
			}
			if d, e := f(x), h(x); d != e {
				t.Fatalf("%v: %d of the clock, %d of the restored one", x, d, e)
			}
			if d, e := a.Run(x.Hi), b.Run(x.Hi); d != e {
				t.Fatalf("Run(%d): %d of the clock, %d of the restored one", x.Hi, d, e)
			}
			check(t, b, a.Now(), a.Epoch(), "the restored clock")
		}
	}
}

// reading is what a clock tells at a true time.
type reading struct {
	truth int64
	time  api.Interval
	epoch int
}

func read(k *Clock, truth int64) reading { return reading{truth, k.Now(), k.Epoch()} }

// live advances a clock through a life of true times with and without power, and returns a reading after each, up
// to the first one of which a bound has reached MaxTime.
func live(t *testing.T, g *generator, c Config, most int64) []reading {
	t.Helper()
	k, truth := &Clock{}, int64(0)
	l := []reading{read(k, truth)}
	for range 30 {
		ticks := g.upTo(most)
		truth += ticks
		e := api.OK
		if g.below(2) == 0 {
			e = k.Run(ticks)
		} else {
			x, ok, measureError := Measure(c, ticks)
			if measureError != api.OK {
				t.Fatalf("Measure(%v, %d) = %d", c, ticks, measureError)
			}
			if ok {
				e = k.Off(x)
			} else {
				e = k.Saturate(x)
			}
		}
		if e != api.OK {
			t.Fatalf("%v: %d ticks: %d", c, ticks, e)
		}
		if k.Now().Hi == last {
			break
		}
		l = append(l, read(k, truth))
	}
	return l
}

// P9.4: the true time between any two readings of an epoch is contained in their age, as long as no bound has
// reached MaxTime.
func TestAgeContainsTruth(t *testing.T) {
	g := generator(4)
	pairs, later := 0, 0
	for range 5000 {
		c := g.config()
		l := live(t, &g, c, 1<<g.below(41))
		for i, then := range l {
			for _, now := range l[i:] {
				if now.epoch != then.epoch {
					continue
				}
				truth := now.truth - then.truth
				if x, e := Age(now.time, then.time); e != api.OK || truth < x.Lo || truth > x.Hi {
					t.Fatalf("%v: %v and %v: Age = %v, %d", c, then, now, x, e)
				}
				pairs++
				if now.epoch > 0 {
					later++
				}
			}
		}
		if now := l[len(l)-1]; now.epoch == 0 && (now.truth < now.time.Lo || now.truth > now.time.Hi) {
			t.Fatalf("%v: %v", c, now)
		}
	}
	if pairs < 500000 || later < 100000 {
		t.Errorf("only %d pairs of readings, %d of them in later epochs", pairs, later)
	}
}

// P9.4: with an error of 0, the age grows by at most one tick to either side with each power failure.
func TestAgeOfExactMeasurements(t *testing.T) {
	var k Clock
	for failures := range int64(1000) {
		x, ok, e := Measure(Config{0, last}, 100)
		if !ok || e != api.OK || k.Run(50) != api.OK || k.Off(x) != api.OK {
			t.Fatalf("Measure = %v, %v, %d", x, ok, e)
		}
		n := failures + 1
		check(t, &k, of(149*n, 151*n), 0, "power failures of 100 ticks each")
	}
}

// P9.4: without power failures the time is exact, up to the end of time.
func TestExactWithPower(t *testing.T) {
	g := generator(5)
	reached := 0
	for range 5000 {
		var k Clock
		var l []reading
		most := int64(1) << g.below(41)
		for truth := int64(0); truth < last && len(l) < 40; {
			ticks := min(g.upTo(most), last-truth)
			truth += ticks
			if e := k.Run(ticks); e != api.OK {
				t.Fatalf("Run(%d) = %d", ticks, e)
			}
			check(t, &k, of(truth, truth), 0, "without power failures")
			l = append(l, read(&k, truth))
			then := pick(&g, l)
			if x, e := Age(k.Now(), then.time); x != of(truth-then.truth, truth-then.truth) || e != api.OK {
				t.Fatalf("Age of %d at %d = %v, %d", then.truth, truth, x, e)
			}
		}
		if k.Now().Lo == last {
			reached++
		}
	}
	if reached < 100 || reached > 4000 {
		t.Errorf("%d clocks reached the end of time", reached)
	}
}

// P9.4: in one epoch neither bound decreases, and neither does the width, as long as no bound has reached MaxTime.
// The lower bound does not decrease from one epoch to the next either.
func TestBoundsNeverDecrease(t *testing.T) {
	g := generator(6)
	_, invalid := divided()
	ended, compared := 0, 0
	for range 20000 {
		k := clock(t, g.interval(1<<g.below(41)), g.below(3))
		most := int64(1) << g.below(41)
		for range 30 {
			before := read(k, 0)
			operate(t, &g, k, &plain{}, most, invalid)
			now := read(k, 0)
			if now.time.Lo < before.time.Lo || now.time.Lo > now.time.Hi {
				t.Fatalf("from %v to %v", before, now)
			}
			if now.epoch != before.epoch {
				ended++
				continue
			}
			width, widthBefore := now.time.Hi-now.time.Lo, before.time.Hi-before.time.Lo
			if now.time.Hi < before.time.Hi || now.time.Hi < last && width < widthBefore {
				t.Fatalf("in one epoch: from %v to %v", before, now)
			}
			if now.time.Hi < last && now.time != before.time {
				compared++
			}
		}
	}
	if ended < 50000 || compared < 100000 {
		t.Errorf("only %d epochs ended, and %d steps in an epoch", ended, compared)
	}
}
