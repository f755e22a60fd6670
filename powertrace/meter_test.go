package powertrace

import (
	"math"
	"math/big"
	"slices"
	"testing"

	"trickle/api"
)

// start returns a meter at the beginning of a schedule.
func start(t *testing.T, l []api.Period) *Meter {
	t.Helper()
	m, e := Start(l)
	if m == nil || e != api.OK {
		t.Fatalf("Start(%v) = %v, %d", l, m, e)
	}
	return m
}

// plain is a meter as the chapter defines it: it keeps what was used in the current period, of any size.
type plain struct {
	schedule []api.Period
	over     int // the periods whose off time has ended
	used     *big.Int
	off      bool
}

func newPlain(l []api.Period) *plain { return &plain{schedule: slices.Clone(l), used: new(big.Int)} }

func (p *plain) allOver() bool { return p.over == len(p.schedule) }

func (p *plain) spend(n int) bool {
	switch {
	case p.off:
		return false
	case p.allOver():
		return true
	}
	used := new(big.Int).Set(p.used)
	if n > 0 {
		used.Add(used, big.NewInt(int64(n)))
	}
	if used.Cmp(big.NewInt(int64(p.schedule[p.over].Energy))) > 0 {
		p.off = true
		return false
	}
	p.used = used
	return true
}

func (p *plain) next() (int64, bool) {
	if !p.off {
		return 0, false
	}
	p.off = false
	p.used = new(big.Int)
	p.over++
	return p.schedule[p.over-1].Off, true
}

func (p *plain) left() int {
	switch {
	case p.off:
		return 0
	case p.allOver():
		return -1
	}
	return p.schedule[p.over].Energy - int(p.used.Int64())
}

func (p *plain) periods() int {
	if p.off {
		return p.over + 1
	}
	return p.over
}

// pair is a meter with what it should be.
type pair struct {
	t     *testing.T
	meter *Meter
	plain *plain
}

func newPair(t *testing.T, l []api.Period) *pair {
	t.Helper()
	x := &pair{t, start(t, l), newPlain(l)}
	x.check("Start")
	return x
}

// check compares what the meter tells. It asks twice, because the answers change nothing.
func (x *pair) check(did string) {
	x.t.Helper()
	for range 2 {
		failed, left, periods := x.meter.Failed(), x.meter.Left(), x.meter.Periods()
		if failed != x.plain.off || left != x.plain.left() || periods != x.plain.periods() {
			x.t.Fatalf("%v: %s: failed %v, left %d, periods %d, want %v, %d, %d", x.plain.schedule, did, failed, left, periods, x.plain.off, x.plain.left(), x.plain.periods())
		}
	}
}

func (x *pair) spend(n int) bool {
	x.t.Helper()
	got, want := x.meter.Spend(n), x.plain.spend(n)
	if got != want {
		x.t.Fatalf("%v: Spend(%d) = %v in period %d with %d used", x.plain.schedule, n, got, x.plain.over, x.plain.used)
	}
	x.check("Spend")
	return got
}

func (x *pair) next() {
	x.t.Helper()
	off, ok := x.meter.Next()
	if want, found := x.plain.next(); off != want || ok != found {
		x.t.Fatalf("%v: Next() = %d, %v, want %d, %v", x.plain.schedule, off, ok, want, found)
	}
	x.check("Next")
}

// amounts are the numbers at and around the ends of energies and of all integers, and around what is left.
func amounts(left int) []int {
	l := slices.Concat(validEnergies(), invalidEnergies())
	return append(l, left-1, left, left+1, left/2, -left)
}

// P13.2: every edge amount in the first, a later and the last period, while the power is off, and after the last one.
func TestSpendEdges(t *testing.T) {
	for _, l := range [][]api.Period{
		nil,
		{{Energy: 0, Off: 1}},
		{{Energy: 40, Off: 100}, {Energy: 0, Off: 5}},
		{{Energy: 1 << 30, Off: last}, {Energy: 7, Off: 2}, {Energy: 1<<30 - 1, Off: last - 1}},
		{{Energy: 0, Off: 3}, {Energy: 1, Off: 4}, {Energy: 0, Off: 5}, {Energy: 1 << 30, Off: 6}, {Energy: 2, Off: 7}},
	} {
		for over := range len(l) + 1 {
			// at returns the pair where so many periods are over, after some energy was used.
			at := func(used int) *pair {
				x := newPair(t, l)
				for range over {
					x.spend(math.MaxInt)
					x.next()
				}
				x.spend(used)
				return x
			}
			for _, used := range []int{0, 1, 39, 40, 1 << 29, 1 << 30} {
				for _, n := range amounts(at(used).plain.left()) {
					x := at(used)
					x.spend(n)
					x.spend(0)
					x.spend(n)
					x.next()
					x.next()
					x.spend(n)
					x.spend(1)
					x.next()
					x.spend(-1)
				}
			}
		}
	}
}

// P13.2: exactly what is left does not let the power fail, in one amount or in many; then only 0 and less do not.
func TestSpendExactly(t *testing.T) {
	for _, energy := range validEnergies() {
		x := newPair(t, []api.Period{{Energy: 3, Off: 9}, {Energy: energy, Off: 8}})
		x.spend(4)
		x.next()
		rest := energy
		for rest > 0 {
			n := (rest + 1) / 2
			if !x.spend(n) {
				t.Fatalf("energy %d: the power fails at %d of %d", energy, n, rest)
			}
			rest -= n
		}
		for _, n := range []int{0, -1, math.MinInt} {
			if !x.spend(n) || x.meter.Failed() || x.meter.Left() != 0 {
				t.Fatalf("energy %d: the power fails at %d", energy, n)
			}
		}
		if x.spend(1) || !x.meter.Failed() {
			t.Fatalf("energy %d: more than it is used", energy)
		}
	}
}

// P13.2: a power failure loses what was left, which is not there in the next period, and no amount is used while
// the power is off.
func TestLost(t *testing.T) {
	m := start(t, []api.Period{{Energy: 100, Off: 11}, {Energy: 5, Off: 12}, {Energy: 1000, Off: 13}})
	for i, energy := range []int{100, 5, 1000} {
		if m.Left() != energy || m.Spend(energy+1) || !m.Failed() || m.Left() != 0 || m.Periods() != i+1 {
			t.Fatalf("period %d: failed %v, left %d, periods %d", i, m.Failed(), m.Left(), m.Periods())
		}
		for _, n := range []int{math.MinInt, -1, 0, 1, energy, math.MaxInt} {
			if m.Spend(n) || !m.Failed() || m.Left() != 0 || m.Periods() != i+1 {
				t.Fatalf("off time %d: Spend(%d), failed %v, left %d, periods %d", i, n, m.Failed(), m.Left(), m.Periods())
			}
		}
		if off, ok := m.Next(); off != int64(11+i) || !ok {
			t.Fatalf("off time %d: Next() = %d, %v", i, off, ok)
		}
		if off, ok := m.Next(); off != 0 || ok || m.Failed() || m.Periods() != i+1 {
			t.Fatalf("off time %d: Next() again = %d, %v", i, off, ok)
		}
	}
}

// checkUnlimited tests that the power never fails from now on.
func checkUnlimited(t *testing.T, m *Meter, periods int) {
	t.Helper()
	for range 1000 {
		for _, n := range []int{math.MaxInt, 1 << 30, 1, 0, -1, math.MinInt} {
			if !m.Spend(n) {
				t.Fatalf("Spend(%d) = false after the last period", n)
			}
		}
		if m.Failed() || m.Left() != -1 || m.Periods() != periods {
			t.Fatalf("after the last period: failed %v, left %d, periods %d", m.Failed(), m.Left(), m.Periods())
		}
		if off, ok := m.Next(); off != 0 || ok {
			t.Fatalf("after the last period: Next() = %d, %v", off, ok)
		}
	}
}

// P13.2: after the last period the power never fails; the empty schedule is after it at once.
func TestAfterLast(t *testing.T) {
	checkUnlimited(t, start(t, nil), 0)
	checkUnlimited(t, start(t, []api.Period{}), 0)
	checkUnlimited(t, new(Meter), 0)
	g := generator(6)
	for n := 1; n < 30; n++ {
		var l []api.Period
		for range n {
			l = append(l, g.period())
		}
		m := start(t, l)
		for i, p := range l {
			if m.Left() != p.Energy || m.Spend(p.Energy+1) || m.Left() != 0 {
				t.Fatalf("%v: period %d", l, i)
			}
			if off, ok := m.Next(); off != p.Off || !ok {
				t.Fatalf("%v: period %d: Next() = %d, %v", l, i, off, ok)
			}
		}
		checkUnlimited(t, m, n)
	}
}

// P13.2: the off times, at every edge.
func TestNextEdges(t *testing.T) {
	var l []api.Period
	for _, off := range validOffs() {
		for _, energy := range validEnergies() {
			l = append(l, api.Period{Energy: energy, Off: off})
		}
	}
	x := newPair(t, l)
	for range len(l) + 2 {
		x.next()
		x.spend(1<<30 + 1)
		x.next()
		x.next()
	}
}

// P13.2: a schedule of many periods that are all the same.
func TestManyPeriods(t *testing.T) {
	const n = 100000
	m := start(t, slices.Repeat([]api.Period{{Energy: 1, Off: 3}}, n))
	for i := range n {
		if !m.Spend(1) || m.Spend(1) || m.Periods() != i+1 {
			t.Fatalf("period %d: failed %v, left %d, periods %d", i, m.Failed(), m.Left(), m.Periods())
		}
		if off, ok := m.Next(); off != 3 || !ok {
			t.Fatalf("period %d: Next() = %d, %v", i, off, ok)
		}
	}
	checkUnlimited(t, m, n)
}

// P13.2: all short sequences of calls for all small schedules.
func TestShortSequences(t *testing.T) {
	const calls, most = 6, 6
	for _, l := range slices.Concat(schedules(0, 2, 9), schedules(1, 2, 9), schedules(2, 2, 9)) {
		for i := range l {
			l[i].Off += int64(i)
		}
		sequences := 1
		for range most {
			sequences *= calls
		}
		for sequence := range sequences {
			x := newPair(t, l)
			for range most {
				switch call := sequence % calls; call {
				case 0:
					x.next()
				case 5:
					x.spend(math.MaxInt)
				default:
					x.spend(call - 2)
				}
				sequence /= calls
			}
		}
	}
}

// P13.2: random schedules and calls.
func TestRandomCalls(t *testing.T) {
	g := generator(7)
	for range 3000 {
		l := g.schedule(8)
		x := newPair(t, l)
		for range 60 {
			left := x.plain.left()
			switch g.below(8) {
			case 0:
				x.next()
			case 1:
				x.spend(pick(&g, amounts(left)))
			case 2:
				x.spend(left + g.below(3) - 1)
			default:
				x.spend(g.upTo(max(left, 1)))
			}
			if x.plain.off && g.below(2) == 0 {
				x.next()
			}
		}
	}
}

// P13.2: an amount is used if and only if its units can be used one by one.
func TestUnits(t *testing.T) {
	g := generator(8)
	for range 500 {
		var l []api.Period
		for range g.below(5) {
			l = append(l, api.Period{Energy: g.below(60), Off: 1 + int64(g.below(9))})
		}
		m, units := start(t, l), start(t, l)
		for range 30 {
			n := g.below(50)
			got, want := m.Spend(n), true
			for range n {
				want = units.Spend(1) && want
			}
			want = want && !units.Failed()
			if got != want || m.Failed() != units.Failed() || m.Left() != units.Left() || m.Periods() != units.Periods() {
				t.Fatalf("%v: %d in one amount: %v, %v, left %d; in units: %v, %v, left %d", l, n, got, m.Failed(), m.Left(), want, units.Failed(), units.Left())
			}
			if g.below(2) == 0 {
				off, ok := m.Next()
				if again, found := units.Next(); off != again || ok != found {
					t.Fatalf("%v: Next() = %d, %v and %d, %v", l, off, ok, again, found)
				}
			}
		}
	}
}

// P13.4: between two failures no more than the energy of the period is used, and the power fails only for lack of it;
// after the last period it never fails.
func TestUsed(t *testing.T) {
	g := generator(9)
	for range 3000 {
		l := g.schedule(12)
		m := start(t, l)
		for i, p := range l {
			used := 0
			for {
				n := g.upTo(p.Energy + 1)
				if !m.Spend(n) {
					if used+n <= p.Energy {
						t.Fatalf("%v: the power fails in period %d at %d + %d", l, i, used, n)
					}
					break
				}
				used += n
				if used > p.Energy {
					t.Fatalf("%v: %d is used in period %d", l, used, i)
				}
				if g.below(20) == 0 {
					if !m.Spend(p.Energy - used) {
						t.Fatalf("%v: in period %d the rest behind %d cannot be used", l, i, used)
					}
					used = p.Energy
				}
			}
			if off, ok := m.Next(); off != p.Off || !ok || m.Periods() != i+1 {
				t.Fatalf("%v: Next() = %d, %v after period %d", l, off, ok, i)
			}
		}
		for range 100 {
			if !m.Spend(g.upTo(math.MaxInt)) || m.Failed() || m.Left() != -1 || m.Periods() != len(l) {
				t.Fatalf("%v: failed %v, left %d, periods %d after the last period", l, m.Failed(), m.Left(), m.Periods())
			}
		}
	}
}

// P13.2: a meter shares no memory with the schedule it was started with, or with other meters.
func TestMeterMemory(t *testing.T) {
	want := []api.Period{{Energy: 3, Off: 30}, {Energy: 2, Off: 20}, {Energy: 1, Off: 10}}
	// With room behind its periods, the slice can be appended to in place.
	given := append(make([]api.Period, 0, 10), want...)
	x := &pair{t, start(t, given), newPlain(want)}
	y := &pair{t, start(t, given), newPlain(want)}
	x.spend(2)
	if !slices.Equal(given, want) {
		t.Fatalf("the given slice has become %v", given)
	}
	for i := range given {
		given[i] = api.Period{Energy: -7, Off: -7}
	}
	_ = append(given, api.Period{Energy: 88, Off: 88})
	for range 5 {
		x.spend(2)
		x.next()
		y.check("another meter")
	}
	for range 20 {
		y.spend(1)
		x.check("another meter")
		if y.plain.off {
			y.next()
		}
	}
	if given[0] != (api.Period{Energy: -7, Off: -7}) {
		t.Errorf("the given slice has become %v", given)
	}
}
