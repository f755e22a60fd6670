package capacitor

import (
	"math"
	"math/big"
	"slices"
	"testing"

	"trickle/api"
)

// moment is what happens in one tick of a schedule.
type moment struct{ running, turnsOff bool }

// moments simulates a schedule with a plain capacitor.
func moments(c Config, load int, l []Step) []moment {
	p := newPlain(c)
	var all []moment
	for _, step := range l {
		for range step.Ticks {
			p.harvest(step.Power, 1)
			x := moment{running: p.running}
			if x.running {
				x.turnsOff = !p.draw(load)
			}
			all = append(all, x)
		}
	}
	return all
}

// schedule is Schedule as the chapter defines it, for valid arguments: it looks for the ticks with which periods
// begin and end, and then counts those within and between them.
func schedule(c Config, load int, l []Step) []api.Period {
	var begins, ends []int
	all := moments(c, load, l)
	for i, x := range all {
		if x.running && (i == 0 || !all[i-1].running || all[i-1].turnsOff) {
			begins = append(begins, i)
		}
		if x.turnsOff {
			ends = append(ends, i)
		}
	}
	var found []api.Period
	for k, end := range ends {
		next := len(all)
		if k+1 < len(begins) {
			next = begins[k+1]
		}
		found = append(found, api.Period{Energy: load * (end - begins[k] + 1), Off: int64(next - end - 1)})
	}
	return found
}

// checkSchedule compares a schedule.
func checkSchedule(t *testing.T, c Config, load int, l []Step, want []api.Period) {
	t.Helper()
	copied := slices.Clone(l)
	if got, e := Schedule(c, load, l); e != api.OK || !slices.Equal(got, want) {
		t.Fatalf("Schedule(%v, %d, %v) = %v, %d, want %v", c, load, l, got, e, want)
	}
	if !slices.Equal(l, copied) {
		t.Fatalf("Schedule(%v, %d, %v) changed the steps to %v", c, load, copied, l)
	}
}

// checkBound compares the energy of all periods of a schedule with what there can be.
func checkBound(t *testing.T, c Config, load int, l []Step, found []api.Period) {
	t.Helper()
	used, bound := new(big.Int), big.NewInt(int64(c.Capacity))
	for _, x := range found {
		used.Add(used, big.NewInt(int64(x.Energy)))
		bound.Add(bound, big.NewInt(int64(load)))
	}
	for _, step := range l {
		bound.Add(bound, new(big.Int).Mul(big.NewInt(int64(step.Power)), big.NewInt(step.Ticks)))
	}
	if used.Cmp(bound) > 0 {
		t.Fatalf("Schedule(%v, %d, %v): the periods have %v units, at most %v are possible", c, load, l, used, bound)
	}
}

// periods returns the periods with the given energies and off times, in turn.
func periods(l ...int) []api.Period {
	var all []api.Period
	for x := range slices.Chunk(l, 2) {
		all = append(all, api.Period{Energy: x[0], Off: int64(x[1])})
	}
	return all
}

// P8.1: where periods begin and end, worked out by hand.
func TestSchedule(t *testing.T) {
	example, one, two := Config{Capacity: 100, On: 50, Off: 10}, Config{1, 1, 0}, Config{2, 2, 0}
	// In the last of these 8 ticks the device turns on with 56 units, of which the first draw of 10 leaves 46.
	on := Step{7, 8}
	for _, x := range []struct {
		c    Config
		load int
		l    []Step
		want []api.Period
	}{
		{example, 10, nil, nil},
		{example, 10, []Step{}, nil},
		{example, 10, []Step{{0, 0}}, nil},
		{example, 10, []Step{{1 << 20, 0}}, nil},
		{example, 10, []Step{{0, 1000}}, nil},
		{example, 10, []Step{{7, 7}}, nil},
		{example, 10, []Step{{7, 7}, {0, 50}}, nil},
		// One period, which has not ended, ends with the last tick, or ends before it.
		{example, 10, []Step{on}, nil},
		{example, 10, []Step{on, {0, 3}}, nil},
		{example, 10, []Step{on, {0, 4}}, periods(50, 0)},
		{example, 10, []Step{on, {0, 5}}, periods(50, 1)},
		{example, 10, []Step{on, {0, 100}}, periods(50, 96)},
		{example, 9, []Step{on, {0, 4}}, nil},
		{example, 9, []Step{on, {0, 5}}, periods(54, 0)},
		// The first draw turns the device off, or does not quite; it counts in full where there is less energy.
		{example, 46, []Step{on}, periods(46, 0)},
		{example, 45, []Step{on}, nil},
		{example, 47, []Step{on, {0, 2}}, periods(47, 2)},
		{example, 1000, []Step{on, {0, 2}}, periods(1000, 2)},
		{example, 1 << 20, []Step{on}, periods(1<<20, 0)},
		// The charge is 6 after the first period, and 60 or 59 when the device turns on again, several steps later.
		{example, 10, []Step{on, {0, 4}, {0, 3}, {5, 2}, {9, 0}, {44, 1}}, periods(50, 5)},
		{example, 10, []Step{on, {0, 4}, {0, 3}, {5, 2}, {9, 0}, {44, 1}, {0, 4}, {1, 2}}, periods(50, 5, 50, 2)},
		{example, 10, []Step{on, {0, 4}, {0, 3}, {5, 2}, {43, 1}, {0, 1}, {1, 1}, {0, 9}}, periods(50, 5, 50, 7)},
		// A device that is on harvests what it needs, or one unit less in each tick.
		{example, 10, []Step{on, {10, 90}, {0, 4}, {0, 2}}, periods(950, 2)},
		{example, 10, []Step{on, {9, 100}}, periods(370, 4, 360, 4)},
		// The capacitor is full after each harvest, so that 55 units are left after the last one and its draw.
		{example, 45, []Step{{1 << 20, 3}, {0, 3}}, periods(180, 2)},
		// Periods of one tick, next to each other and apart.
		{one, 1, []Step{{1, 1}}, periods(1, 0)},
		{one, 1, []Step{{1, 3}}, periods(1, 0, 1, 0, 1, 0)},
		{one, 1 << 20, []Step{{1, 2}}, periods(1<<20, 0, 1<<20, 0)},
		{one, 1, []Step{{0, 2}, {1, 1}, {0, 3}, {1, 1}, {0, 4}}, periods(1, 3, 1, 4)},
		{two, 2, []Step{{1, 7}}, periods(2, 1, 2, 1, 2, 1)},
		{two, 1, []Step{{2, 1}, {0, 1}, {2, 1}, {0, 1}}, periods(2, 0, 2, 0)},
		// The second period does not end, but the device is not off any more when it begins.
		{two, 1, []Step{{2, 1}, {0, 4}, {2, 1}}, periods(2, 3)},
		{two, 1, []Step{{2, 1}, {0, 4}, {2, 1}, {1, 7}}, periods(2, 3)},
	} {
		checkSchedule(t, x.c, x.load, x.l, x.want)
		if want := schedule(x.c, x.load, x.l); !slices.Equal(x.want, want) {
			t.Errorf("Schedule(%v, %d, %v): by hand %v, by the definition %v", x.c, x.load, x.l, x.want, want)
		}
		checkBound(t, x.c, x.load, x.l, x.want)
	}
}

// P8.1: the greatest numbers of ticks and steps, the greatest load, and the longest periods.
func TestScheduleGreatest(t *testing.T) {
	const most = 1 << 30
	one := Config{1, 1, 0}
	checkSchedule(t, one, 1, []Step{{1, 1 << 16}}, slices.Repeat(periods(1, 0), 1<<16))
	checkSchedule(t, one, 1, []Step{{0, 1<<16 - 1}, {1, 1}}, periods(1, 0))
	checkSchedule(t, one, 1, []Step{{1, 1}, {0, 1<<16 - 1}}, periods(1, 1<<16-1))
	checkSchedule(t, one, 1, slices.Repeat([]Step{{1, 1 << 10}}, 64), slices.Repeat(periods(1, 0), 1<<16))
	checkSchedule(t, one, 1, slices.Repeat([]Step{{1, 1}}, 64), slices.Repeat(periods(1, 0), 64))
	checkSchedule(t, one, 1, slices.Repeat([]Step{{1, 0}}, 64), nil)
	// The device turns on in the tick 1023 (of 0 and more) and turns off 1023 ticks after the last harvest.
	long := []Step{{1 << 20, 1<<16 - 1024}, {0, 1024}}
	checkSchedule(t, Config{most, most, 0}, 1<<20, long, periods(64512<<20, 1))
	checkBound(t, Config{most, most, 0}, 1<<20, long, periods(64512<<20, 1))
	checkSchedule(t, Config{most, most, most - 1}, 1<<20, []Step{{1 << 20, 1 << 16}}, slices.Repeat(periods(1<<20, 0), 1<<16-1023))
	checkSchedule(t, Config{most, most, 0}, 1, []Step{{1 << 20, 1 << 16}}, nil)
}

// P8.1: every condition for ErrInvalid, alone, with valid arguments next to it.
func TestScheduleInvalid(t *testing.T) {
	c := Config{Capacity: 100, On: 50, Off: 10}
	l := []Step{{7, 8}, {0, 5}}
	checkSchedule(t, c, 10, l, periods(50, 1))
	for _, config := range invalidConfigs() {
		checkInvalid(t, config, 10, l)
	}
	for _, config := range validConfigs() {
		checkSchedule(t, config, 10, l, schedule(config, 10, l))
	}
	_, invalid := powers()
	for _, load := range append(invalid, 0) {
		checkInvalid(t, c, load, l)
		checkInvalid(t, c, load, nil)
	}
	for _, load := range []int{1, 2, 1<<20 - 1, 1 << 20} {
		checkSchedule(t, c, load, l, schedule(c, load, l))
	}
	for _, n := range []int{65, 66, 128, 1000, 1 << 16, 1 << 17} {
		checkInvalid(t, c, 10, slices.Repeat([]Step{{7, 1}}, n))
		checkInvalid(t, c, 10, slices.Repeat([]Step{{}}, n))
	}
	for _, n := range []int{1, 63, 64} {
		steps := slices.Repeat([]Step{{7, 1}}, n)
		checkSchedule(t, c, 10, steps, schedule(c, 10, steps))
	}
}

// checkInvalid tests that there is no schedule.
func checkInvalid(t *testing.T, c Config, load int, l []Step) {
	t.Helper()
	if got, e := Schedule(c, load, l); len(got) != 0 || e != api.ErrInvalid {
		t.Fatalf("Schedule(%v, %d, %v) = %v, %d", c, load, l, got, e)
	}
}

// around returns schedules with a step at the start, in the middle and at the end.
func around(x Step) [][]Step {
	return [][]Step{{x}, {x, {7, 8}, {0, 5}}, {{7, 8}, x, {0, 5}}, {{7, 8}, {0, 5}, x}}
}

// P8.1: a power or a number of ticks that is not valid, in any step, also with a power or number of ticks of 0.
func TestScheduleInvalidSteps(t *testing.T) {
	c := Config{Capacity: 100, On: 50, Off: 10}
	validPowers, invalidPowers := powers()
	validTicks, invalidTicks := ticks()
	check := func(power int, n int64, valid bool) {
		for _, l := range around(Step{power, n}) {
			if valid {
				checkSchedule(t, c, 10, l, schedule(c, 10, l))
			} else {
				checkInvalid(t, c, 10, l)
			}
		}
	}
	for _, power := range invalidPowers {
		for _, n := range append(validTicks, invalidTicks...) {
			check(power, n, false)
		}
	}
	for _, power := range validPowers {
		for _, n := range []int64{0, 1, 2, 100} {
			check(power, n, true)
		}
		for _, n := range append(invalidTicks, 1<<16+1, 1<<17, 1<<32, 1<<40) {
			check(power, n, false)
		}
	}
}

// P8.1: totals of 2^16 ticks, one less and one more, and totals whose sum would overflow.
func TestScheduleTotal(t *testing.T) {
	c := Config{Capacity: 100, On: 50, Off: 10}
	for _, l := range [][]Step{
		{{0, 1<<16 - 1}}, {{0, 1 << 16}}, {{3, 1<<16 - 1}, {7, 1}}, {{7, 1}, {3, 1<<16 - 1}}, {{3, 1 << 15}, {7, 1 << 15}},
		{{3, 1 << 16}, {7, 0}}, {{3, 0}, {7, 1 << 16}}, {{7, 1 << 15}, {0, 1}, {7, 1<<15 - 1}}, slices.Repeat([]Step{{7, 1 << 10}}, 64),
	} {
		checkSchedule(t, c, 10, l, schedule(c, 10, l))
	}
	for _, l := range [][]Step{
		{{0, 1<<16 + 1}}, {{3, 1 << 16}, {7, 1}}, {{7, 1}, {3, 1 << 16}}, {{3, 1 << 15}, {7, 1<<15 + 1}}, {{1, 1 << 15}, {2, 1 << 15}, {3, 1}},
		{{3, 1 << 40}}, {{3, 1 << 40}, {3, 1 << 40}}, slices.Repeat([]Step{{7, 1 << 40}}, 64), slices.Repeat([]Step{{7, 1<<10 + 1}}, 64),
		{{3, math.MaxInt64}, {3, math.MaxInt64}}, {{3, math.MaxInt64}, {3, math.MaxInt64}, {3, 3}}, {{3, math.MinInt64}, {3, math.MinInt64}},
		{{3, math.MaxInt64}, {3, 1}, {3, math.MaxInt64}, {3, 10}}, {{3, 1 << 62}, {3, 1 << 62}, {3, 1 << 62}, {3, 1 << 62}},
		{{3, 1 << 16}, {3, -1}, {3, 1}}, {{3, -1}, {3, 1<<16 + 1}}, {{3, 1<<16 + 1}, {3, -1}}, {{3, -1}, {3, 1}},
		{{3, 1 << 32}, {3, 5}}, {{3, 1<<32 + 5}}, slices.Repeat([]Step{{7, 1 << 58}}, 64), slices.Repeat([]Step{{7, 1 << 26}}, 64),
	} {
		checkInvalid(t, c, 10, l)
	}
}

// P8.1: a schedule shares nothing with another one, and is the same each time.
func TestScheduleCopied(t *testing.T) {
	c := Config{Capacity: 100, On: 50, Off: 10}
	l := []Step{{7, 8}, {0, 5}, {20, 9}, {0, 30}}
	want := schedule(c, 10, l)
	first, _ := Schedule(c, 10, l)
	second, _ := Schedule(c, 10, l)
	if !slices.Equal(first, want) || len(want) != 2 {
		t.Fatalf("Schedule = %v, want %v", first, want)
	}
	for i := range first {
		first[i] = api.Period{Energy: -1, Off: -1}
	}
	_ = append(first, api.Period{Energy: -1, Off: -1})
	if !slices.Equal(second, want) {
		t.Errorf("a change of one schedule changed another: %v", second)
	}
	l[0] = Step{}
	if !slices.Equal(second, want) {
		t.Errorf("a change of the steps changed the schedule: %v", second)
	}
	l[0] = Step{7, 8}
	checkSchedule(t, c, 10, l, want)
}

// P8.1, P8.2: every small configuration with every schedule of three short steps.
func TestScheduleEveryShort(t *testing.T) {
	var steps []Step
	for _, power := range []int{0, 1, 2, 5} {
		for _, n := range []int64{0, 1, 2, 3} {
			steps = append(steps, Step{power, n})
		}
	}
	for _, c := range smallConfigs(3) {
		for load := 1; load <= 3; load++ {
			for _, x := range steps {
				for _, y := range steps {
					for _, z := range steps {
						l := []Step{x, y, z}
						want := schedule(c, load, l)
						checkSchedule(t, c, load, l, want)
						checkBound(t, c, load, l, want)
					}
				}
			}
		}
	}
}

// randomSchedule returns valid arguments of Schedule, with powers and a load that let the device turn on and off.
func randomSchedule(g *generator) (c Config, load int, l []Step) {
	c = g.config()
	if g.below(3) == 0 {
		c = pick(g, smallConfigs(6))
	}
	load = min(1+g.below(c.Capacity+2), 1<<20)
	if g.below(2) == 0 {
		load = min(1+c.On/(1+g.below(30)), 1<<20)
	}
	for range g.below(20) {
		x := Step{Ticks: int64(g.below(40))}
		switch g.below(6) {
		case 0:
			x.Power = g.upTo(1 << 20)
		case 1, 2, 3:
			x.Power = min(g.below(2*load+2), 1<<20)
		case 4:
			x.Power = min(c.On/(1+g.below(5)), 1<<20)
		}
		l = append(l, x)
	}
	return c, load, l
}

// P8.1, P8.2: random schedules agree with the definition, and their energy is within the bound.
func TestScheduleRandom(t *testing.T) {
	g := generator(3)
	total := 0
	for range 20000 {
		c, load, l := randomSchedule(&g)
		want := schedule(c, load, l)
		checkSchedule(t, c, load, l, want)
		checkBound(t, c, load, l, want)
		total += len(want)
	}
	if total < 20000 {
		t.Errorf("only %d periods", total)
	}
}

// P8.1: what matters of the steps is the power in each tick: steps of 0 ticks, and where a step of several ticks is
// divided into two, do not. The ticks of a schedule are those before the first period, of the periods, between them,
// and of the last one if it does not end.
func TestScheduleTicks(t *testing.T) {
	g := generator(4)
	for range 3000 {
		c, load, l := randomSchedule(&g)
		want, _ := Schedule(c, load, l)
		var divided []Step
		for _, x := range l {
			first := int64(g.below(int(x.Ticks) + 1))
			divided = append(divided, Step{x.Power, first}, Step{x.Power, x.Ticks - first}, Step{g.upTo(1 << 20), 0})
		}
		checkSchedule(t, c, load, divided, want)
		running, turnsOff, off := 0, 0, int64(0)
		for _, x := range moments(c, load, l) {
			if x.running {
				running++
			}
			if x.turnsOff {
				turnsOff++
			}
			if turnsOff > 0 && !x.running {
				off++
			}
		}
		energy := 0
		for _, x := range want {
			energy += x.Energy
			off -= x.Off
		}
		if len(want) != turnsOff || off != 0 || energy > running*load || energy < turnsOff*load {
			t.Fatalf("Schedule(%v, %d, %v) = %v: %d periods, %d ticks running", c, load, l, want, turnsOff, running)
		}
	}
}

// P1: random arguments of every kind give a schedule or ErrInvalid, as the definition says.
func TestScheduleAnything(t *testing.T) {
	g := generator(5)
	validPowers, invalidPowers := powers()
	validTicks, invalidTicks := ticks()
	counts := map[bool]int{}
	for range 20000 {
		c, load, l := randomSchedule(&g)
		valid := true
		switch g.below(9) {
		case 0:
			c, valid = pick(&g, invalidConfigs()), false
		case 1:
			load, valid = pick(&g, append(invalidPowers, 0)), false
		case 2:
			l, valid = append(l, Step{pick(&g, invalidPowers), pick(&g, validTicks)}), false
		case 3:
			l, valid = append([]Step{{pick(&g, validPowers), pick(&g, invalidTicks)}}, l...), false
		case 4:
			l, valid = append(slices.Repeat([]Step{{}}, 65-len(l)), l...), false
		case 5:
			l, valid = append([]Step{{pick(&g, validPowers), 1<<16 + 1 + int64(g.upTo(1<<39))}}, l...), false
		}
		counts[valid]++
		if valid {
			checkSchedule(t, c, load, l, schedule(c, load, l))
		} else {
			checkInvalid(t, c, load, l)
		}
	}
	if counts[true] < 5000 || counts[false] < 5000 {
		t.Errorf("valid and not: %v", counts)
	}
}
