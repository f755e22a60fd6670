package capacitor

import (
	"math"
	"math/big"
	"slices"
	"testing"

	"trickle/api"
)

// generator makes numbers that follow no simple rule. Its value is never 0.
type generator uint64

// below returns a number from 0 to n-1.
func (g *generator) below(n int) int {
	*g ^= *g << 13
	*g ^= *g >> 7
	*g ^= *g << 17
	return int((uint64(*g) >> 20) % uint64(n))
}

// pick returns one of some values.
func pick[T any](g *generator, l []T) T { return l[g.below(len(l))] }

// upTo returns a number from 0 to n, which has any number of digits with about the same frequency.
func (g *generator) upTo(n int) int {
	return min(g.below(1<<g.below(43)), n)
}

// config returns a valid configuration of any size.
func (g *generator) config() Config {
	capacity := 1 + g.upTo(1<<30-1)
	on := 1 + g.below(capacity)
	off := g.below(on)
	switch g.below(6) {
	case 0:
		on = capacity
	case 1:
		off = on - 1
	case 2:
		off = 0
	}
	return Config{capacity, on, off}
}

// smallConfigs returns all valid configurations whose capacity is at most n.
func smallConfigs(n int) []Config {
	var l []Config
	for capacity := 1; capacity <= n; capacity++ {
		for on := 1; on <= capacity; on++ {
			for off := range on {
				l = append(l, Config{capacity, on, off})
			}
		}
	}
	return l
}

// The numbers at and around the ends of what is valid, and of all integers.
func powers() (valid, invalid []int) {
	return []int{0, 1, 2, 3, 1<<20 - 1, 1 << 20},
		[]int{math.MinInt, math.MinInt + 1, -1 << 40, -1 << 32, -1 << 20, -2, -1, 1<<20 + 1, 1 << 21, 1 << 32, 1<<32 + 1, math.MaxInt - 1, math.MaxInt}
}

func ticks() (valid, invalid []int64) {
	return []int64{0, 1, 2, 3, 1 << 16, 1<<32 - 1, 1 << 32, 1<<40 - 1, 1 << 40},
		[]int64{math.MinInt64, math.MinInt64 + 1, -1 << 40, -1 << 32, -2, -1, 1<<40 + 1, 1 << 41, 1 << 44, 1<<62 + 1, math.MaxInt64 - 1, math.MaxInt64}
}

// plain is a capacitor as the chapter defines it, with a charge of any size.
type plain struct {
	config  Config
	charge  *big.Int
	running bool
}

func newPlain(c Config) *plain { return &plain{config: c, charge: new(big.Int)} }

func (p *plain) atLeast(n int) bool { return p.charge.Cmp(big.NewInt(int64(n))) >= 0 }

func (p *plain) harvest(power int, ticks int64) api.Errno {
	if power < 0 || power > 1048576 || ticks < 0 || ticks > 1099511627776 {
		return api.ErrInvalid
	}
	p.charge.Add(p.charge, new(big.Int).Mul(big.NewInt(int64(power)), big.NewInt(ticks)))
	if p.atLeast(p.config.Capacity) {
		p.charge.SetInt64(int64(p.config.Capacity))
	}
	if p.atLeast(p.config.On) {
		p.running = true
	}
	return api.OK
}

func (p *plain) draw(n int) bool {
	if n < 0 || !p.running {
		return false
	}
	p.charge.Sub(p.charge, big.NewInt(int64(n)))
	if p.charge.Sign() < 0 {
		p.charge.SetInt64(0)
	}
	if !p.atLeast(p.config.Off + 1) {
		p.running = false
		return false
	}
	return true
}

// waitTime finds the least number of ticks by halving a range that contains it.
func (p *plain) waitTime(power int) (int64, bool) {
	if p.running {
		return 0, true
	}
	if power < 1 || power > 1048576 {
		return 0, false
	}
	none, enough := int64(0), int64(1<<30)
	for enough-none > 1 {
		q := &plain{config: p.config, charge: new(big.Int).Set(p.charge)}
		n := (none + enough) / 2
		q.harvest(power, n)
		if q.running {
			enough = n
		} else {
			none = n
		}
	}
	return enough, true
}

// capacitor returns a new capacitor.
func capacitor(t *testing.T, config Config) *Capacitor {
	t.Helper()
	c, e := New(config)
	if c == nil || e != api.OK {
		t.Fatalf("New(%v) = %v, %d", config, c, e)
	}
	return c
}

// charged returns a capacitor with a charge that is running, or one that is not. A capacitor that is running has
// more than Off, one that is not less than On.
func charged(t *testing.T, config Config, charge int, running bool) *Capacitor {
	t.Helper()
	c := capacitor(t, config)
	if running {
		c.Harvest(1, int64(config.Capacity))
		c.Draw(config.Capacity - charge)
	} else {
		c.Harvest(1, int64(charge))
	}
	check(t, c, charge, running, "a capacitor to begin with")
	return c
}

// check compares the state of a capacitor.
func check(t *testing.T, c *Capacitor, charge int, running bool, text string) {
	t.Helper()
	if c.Charge() != charge || c.Running() != running {
		t.Fatalf("%s: Charge() = %d, Running() = %v, want %d and %v", text, c.Charge(), c.Running(), charge, running)
	}
}

// P8.1: the chapter's examples.
func TestExample(t *testing.T) {
	config := Config{Capacity: 100, On: 50, Off: 10}
	c := capacitor(t, config)
	if e := c.Harvest(7, 8); e != api.OK {
		t.Errorf("Harvest(7, 8) = %d", e)
	}
	check(t, c, 56, true, "after Harvest(7, 8)")
	if !c.Draw(45) {
		t.Error("Draw(45) = false")
	}
	check(t, c, 11, true, "after Draw(45)")
	if c.Draw(1) {
		t.Error("Draw(1) = true")
	}
	check(t, c, 10, false, "after Draw(1)")
	if n := Guaranteed(config); n != 39 {
		t.Errorf("Guaranteed = %d", n)
	}
}

// validConfigs and invalidConfigs are at the ends of each condition for a valid configuration.
func validConfigs() []Config {
	const most = 1 << 30
	return []Config{
		{1, 1, 0}, {2, 1, 0}, {2, 2, 0}, {2, 2, 1}, {100, 50, 10}, {100, 100, 0}, {100, 100, 99}, {100, 1, 0},
		{most, 1, 0}, {most, most, 0}, {most, most, most - 1}, {most, most - 1, most - 2}, {most, 2, 1},
		{most - 1, most - 1, 0}, {most - 1, 1, 0},
	}
}

func invalidConfigs() []Config {
	const most = 1 << 30
	return []Config{
		{}, {0, 1, 0}, {0, 0, -1}, {1, 0, 0}, {1, 1, 1}, {1, 2, 0}, {1, 2, 1}, {1, 0, -1}, {1, 1, -1}, {-1, -2, -3}, {-1, 1, 0},
		{1, -1, 0}, {100, 50, -1}, {100, 50, 50}, {100, 50, 51}, {100, 101, 10}, {100, 102, 10}, {100, 100, 100}, {100, 101, 100},
		{100, 0, 0}, {100, 10, 50}, {50, 100, 10}, {10, 50, 100}, {100, 50, math.MinInt}, {100, 50, math.MaxInt},
		{100, math.MaxInt, 10}, {100, math.MinInt, 10}, {math.MinInt, 50, 10}, {math.MaxInt, 50, 10}, {math.MaxInt, math.MaxInt, 0},
		{most + 1, 50, 10}, {most + 1, most, 0}, {most + 1, most + 1, 0}, {most + 1, most + 1, most}, {most, most + 1, 0},
		{most, most, most}, {most, most, -1}, {1 << 31, 50, 10}, {1 << 32, 50, 10}, {1<<32 + 100, 50, 10}, {100, 1<<32 + 50, 10},
		{100, 50, 1<<32 + 10}, {100, 50, -1<<32 + 10}, {math.MinInt, math.MinInt, math.MinInt}, {math.MaxInt, math.MaxInt, math.MaxInt},
	}
}

// P8.1: every condition for a valid configuration; what is new is empty and not running.
func TestNew(t *testing.T) {
	for _, config := range append(validConfigs(), smallConfigs(8)...) {
		check(t, capacitor(t, config), 0, false, "a new capacitor")
	}
	for _, config := range invalidConfigs() {
		if c, e := New(config); c != nil || e != api.ErrInvalid {
			t.Errorf("New(%v) = %v, %d", config, c, e)
		}
	}
}

// P8.1: of all small configurations, those are valid whose numbers are in order.
func TestNewSmall(t *testing.T) {
	valid := smallConfigs(6)
	for capacity := -2; capacity <= 6; capacity++ {
		for on := -2; on <= 8; on++ {
			for off := -2; off <= 8; off++ {
				config := Config{capacity, on, off}
				want := slices.Contains(valid, config)
				c, e := New(config)
				if (e == api.OK) != want || (c != nil) != want || e != api.OK && e != api.ErrInvalid {
					t.Errorf("New(%v) = %v, %d", config, c, e)
				}
				if Guaranteed(config) != 0 && !want {
					t.Errorf("Guaranteed(%v) = %d", config, Guaranteed(config))
				}
				if _, e := Schedule(config, 1, nil); (e == api.OK) != want || e != api.OK && e != api.ErrInvalid {
					t.Errorf("Schedule(%v) = %d", config, e)
				}
			}
		}
	}
}

// P8.1: a harvest that reaches On exactly, one less and one more; one that fills the capacitor, and more.
func TestHarvest(t *testing.T) {
	config := Config{Capacity: 100, On: 50, Off: 10}
	for _, x := range []struct {
		power   int
		ticks   int64
		charge  int
		running bool
	}{
		{0, 0, 0, false}, {0, 1, 0, false}, {0, 1 << 40, 0, false}, {1, 0, 0, false}, {1 << 20, 0, 0, false},
		{1, 1, 1, false}, {7, 7, 49, false}, {49, 1, 49, false}, {1, 49, 49, false}, {50, 1, 50, true}, {1, 50, 50, true},
		{5, 10, 50, true}, {51, 1, 51, true}, {17, 3, 51, true}, {33, 3, 99, true}, {99, 1, 99, true}, {100, 1, 100, true},
		{1, 100, 100, true}, {1, 101, 100, true}, {101, 1, 100, true}, {51, 2, 100, true}, {1 << 20, 1, 100, true},
		{1, 1 << 40, 100, true}, {1 << 20, 1 << 40, 100, true}, {1<<20 - 1, 1<<40 - 1, 100, true}, {1 << 20, 1 << 12, 100, true},
		{1 << 16, 1 << 16, 100, true}, {1 << 20, 1 << 36, 100, true},
	} {
		c := capacitor(t, config)
		if e := c.Harvest(x.power, x.ticks); e != api.OK {
			t.Errorf("Harvest(%d, %d) = %d", x.power, x.ticks, e)
		}
		check(t, c, x.charge, x.running, "a harvest")
		if e := c.Harvest(1, 1); e != api.OK {
			t.Errorf("Harvest(1, 1) = %d", e)
		}
		check(t, c, min(x.charge+1, 100), x.running || x.charge == 49, "a further harvest")
	}
}

// P8.1: the greatest capacitor is filled by the greatest power in 1024 ticks, and by one unit a tick in 2^30.
func TestHarvestGreatest(t *testing.T) {
	const most = 1 << 30
	config := Config{Capacity: most, On: most, Off: most - 1}
	for _, x := range []struct {
		power   int
		ticks   int64
		charge  int
		running bool
	}{
		{1 << 20, 1023, most - 1<<20, false}, {1 << 20, 1024, most, true}, {1 << 20, 1025, most, true}, {1, most - 1, most - 1, false},
		{1, most, most, true}, {1, most + 1, most, true}, {1 << 20, 1 << 40, most, true}, {1<<20 - 1, 1024, most - 1024, false},
		{4, 1 << 28, most, true}, {4, 1<<28 - 1, most - 4, false}, {8, 1 << 40, most, true}, {1 << 20, 1 << 11, most, true},
	} {
		c := capacitor(t, config)
		c.Harvest(x.power, x.ticks)
		check(t, c, x.charge, x.running, "a harvest")
		c.Harvest(1<<20, 1<<40)
		check(t, c, most, true, "the greatest harvest of a capacitor that is charged")
	}
}

// P8.1: a harvest that is not valid changes nothing, whatever the state; one that is valid ends with OK.
func TestHarvestInvalid(t *testing.T) {
	config := Config{Capacity: 9, On: 6, Off: 3}
	for _, state := range []struct {
		charge  int
		running bool
	}{{0, false}, {3, false}, {5, false}, {4, true}, {6, true}, {9, true}} {
		invalidHarvests(func(power int, ticks int64) {
			c := charged(t, config, state.charge, state.running)
			if e := c.Harvest(power, ticks); e != api.ErrInvalid {
				t.Fatalf("Harvest(%d, %d) = %d", power, ticks, e)
			}
			check(t, c, state.charge, state.running, "a harvest that is not valid")
		})
		validPowers, _ := powers()
		validTicks, _ := ticks()
		for _, power := range validPowers {
			for _, n := range validTicks {
				c := charged(t, config, state.charge, state.running)
				if e := c.Harvest(power, n); e != api.OK {
					t.Fatalf("Harvest(%d, %d) = %d", power, n, e)
				}
				charge := state.charge
				if power > 0 && n > 0 {
					charge = int(min(int64(charge)+min(int64(power), 9)*min(n, 9), 9))
				}
				check(t, c, charge, state.running || charge >= 6, "a harvest that is valid")
			}
		}
	}
}

// invalidHarvests calls f with arguments of Harvest of which one or both are not valid.
func invalidHarvests(f func(power int, ticks int64)) {
	validPowers, invalidPowers := powers()
	validTicks, invalidTicks := ticks()
	for _, power := range invalidPowers {
		for _, n := range append(invalidTicks, validTicks...) {
			f(power, n)
		}
	}
	for _, power := range validPowers {
		for _, n := range invalidTicks {
			f(power, n)
		}
	}
}

// P8.1: a capacitor that is running remains so below On, and one that has turned off does not turn on before On,
// however often it harvests in between.
func TestBetweenThresholds(t *testing.T) {
	config := Config{Capacity: 100, On: 50, Off: 10}
	c := charged(t, config, 20, true)
	for i := range 5 {
		c.Harvest(4, 1)
		check(t, c, 24+4*i, true, "a harvest between Off and On, running")
		c.Harvest(0, 7)
		c.Harvest(7, 0)
		check(t, c, 24+4*i, true, "a harvest of nothing, running")
	}
	if c.Draw(30) {
		t.Error("Draw down to Off: true")
	}
	check(t, c, 10, false, "turned off")
	for charge := 11; charge < 50; charge++ {
		c.Harvest(1, 1)
		check(t, c, charge, false, "a harvest between Off and On, turned off")
		if c.Draw(0) || c.Draw(1) || c.Draw(100) {
			t.Errorf("Draw with charge %d: true", charge)
		}
		c.Harvest(0, 1)
		check(t, c, charge, false, "draws and a harvest of nothing, turned off")
	}
	c.Harvest(1, 1)
	check(t, c, 50, true, "turned on again")
	if !c.Draw(39) || c.Draw(1) {
		t.Error("Draw after turning on again")
	}
	check(t, c, 10, false, "turned off again")
}

// P8.1: down to every charge of a capacitor that is running, and below 0.
func TestDraw(t *testing.T) {
	config := Config{Capacity: 100, On: 50, Off: 10}
	for charge := 11; charge <= 100; charge++ {
		for n := 0; n <= 120; n++ {
			c := charged(t, config, charge, true)
			left := charge - n
			if got := c.Draw(n); got != (left > 10) {
				t.Fatalf("charge %d: Draw(%d) = %v", charge, n, got)
			}
			check(t, c, max(left, 0), left > 10, "a draw")
		}
	}
}

// P8.1: draws of nothing, of negative energy and of more than there is, running and not.
func TestDrawNumbers(t *testing.T) {
	for _, config := range validConfigs() {
		for _, n := range []int{math.MinInt, math.MinInt + 1, -1 << 32, -1 << 30, -2, -1} {
			for _, charge := range []int{config.Off + 1, config.On, config.Capacity} {
				c := charged(t, config, charge, true)
				if c.Draw(n) {
					t.Errorf("%v: Draw(%d) with charge %d = true", config, n, charge)
				}
				check(t, c, charge, true, "a draw of negative energy")
				if !c.Draw(0) {
					t.Errorf("%v: Draw(0) with charge %d = false", config, charge)
				}
				check(t, c, charge, true, "a draw of nothing")
			}
		}
		for _, n := range []int{1 << 30, 1<<30 + 1, 1 << 31, 1 << 32, 1 << 40, math.MaxInt - 1, math.MaxInt} {
			for _, charge := range []int{config.Off + 1, config.On, config.Capacity} {
				c := charged(t, config, charge, true)
				if c.Draw(n) {
					t.Errorf("%v: Draw(%d) with charge %d = true", config, n, charge)
				}
				check(t, c, 0, false, "a draw of more than there is")
			}
		}
		for _, n := range []int{math.MinInt, -1, 0, 1, 2, config.Off, config.On, config.Capacity, 1 << 30, 1 << 32, math.MaxInt} {
			for _, charge := range []int{0, config.Off, config.On - 1} {
				c := charged(t, config, charge, false)
				if c.Draw(n) {
					t.Errorf("%v: Draw(%d) with charge %d, not running = true", config, n, charge)
				}
				check(t, c, charge, false, "a draw of a capacitor that is not running")
			}
		}
	}
}

// P8.1: a draw to Off + 1 leaves the capacitor running, one to exactly Off, or less, turns it off.
func TestDrawToOff(t *testing.T) {
	for _, config := range append(validConfigs(), smallConfigs(8)...) {
		for _, charge := range []int{config.Off + 1, config.On, config.Capacity} {
			c := charged(t, config, charge, true)
			if !c.Draw(charge - config.Off - 1) {
				t.Errorf("%v: a draw from %d to Off + 1 = false", config, charge)
			}
			check(t, c, config.Off+1, true, "a draw to Off + 1")
			if c.Draw(1) {
				t.Errorf("%v: a draw to Off = true", config)
			}
			check(t, c, config.Off, false, "two draws to Off")
			c = charged(t, config, charge, true)
			if c.Draw(charge - config.Off) {
				t.Errorf("%v: a draw from %d to Off = true", config, charge)
			}
			check(t, c, config.Off, false, "a draw to Off")
			c = charged(t, config, charge, true)
			if c.Draw(charge - config.Off + 1) {
				t.Errorf("%v: a draw from %d to less than Off = true", config, charge)
			}
			check(t, c, max(config.Off-1, 0), false, "a draw to less than Off")
		}
	}
}

// P8.1: two capacitors have nothing in common, also not if their configurations are equal.
func TestTwoCapacitors(t *testing.T) {
	config := Config{Capacity: 10, On: 5, Off: 1}
	a, b := capacitor(t, config), capacitor(t, config)
	a.Harvest(6, 1)
	check(t, b, 0, false, "the other one is empty")
	b.Harvest(3, 1)
	check(t, a, 6, true, "the first one")
	a.Draw(5)
	check(t, a, 1, false, "the first one turned off")
	check(t, b, 3, false, "the other one")
	config.On = 1
	b.Harvest(1, 1)
	check(t, b, 4, false, "the configuration was changed by its owner")
}

// checkWait compares WaitTime with harvesting: so many ticks are enough, and one less is not.
func checkWait(t *testing.T, config Config, charge, power int, want int64) {
	t.Helper()
	c := charged(t, config, charge, false)
	if n, ok := c.WaitTime(power); n != want || !ok {
		t.Fatalf("%v, charge %d: WaitTime(%d) = %d, %v, want %d", config, charge, power, n, ok, want)
	}
	check(t, c, charge, false, "WaitTime")
	c.Harvest(power, want-1)
	if c.Running() {
		t.Fatalf("%v, charge %d, power %d: running after %d ticks", config, charge, power, want-1)
	}
	c.Harvest(power, 1)
	if !c.Running() {
		t.Fatalf("%v, charge %d, power %d: not running after %d ticks", config, charge, power, want)
	}
}

// P8.1: On less the charge is a multiple of the power, one more and one less, at every size.
func TestWaitTime(t *testing.T) {
	const most = 1 << 30
	for _, x := range []struct {
		config        Config
		charge, power int
		want          int64
	}{
		{Config{100, 50, 10}, 0, 1, 50}, {Config{100, 50, 10}, 0, 7, 8}, {Config{100, 50, 10}, 0, 10, 5}, {Config{100, 50, 10}, 0, 24, 3},
		{Config{100, 50, 10}, 0, 25, 2}, {Config{100, 50, 10}, 0, 26, 2}, {Config{100, 50, 10}, 0, 49, 2}, {Config{100, 50, 10}, 0, 50, 1},
		{Config{100, 50, 10}, 0, 51, 1}, {Config{100, 50, 10}, 0, 1 << 20, 1}, {Config{100, 50, 10}, 49, 1, 1},
		{Config{100, 50, 10}, 48, 1, 2}, {Config{100, 50, 10}, 49, 1 << 20, 1}, {Config{100, 50, 10}, 48, 2, 1},
		{Config{100, 50, 10}, 47, 2, 2}, {Config{100, 50, 10}, 46, 2, 2}, {Config{100, 50, 10}, 5, 15, 3}, {Config{100, 50, 10}, 4, 15, 4},
		{Config{100, 50, 10}, 6, 15, 3}, {Config{1, 1, 0}, 0, 1, 1}, {Config{1, 1, 0}, 0, 1 << 20, 1}, {Config{most, 1, 0}, 0, 1, 1},
		{Config{most, most, 0}, 0, 1, most}, {Config{most, most, 0}, 0, 2, most / 2}, {Config{most, most, 0}, 0, 3, 357913942},
		{Config{most, most, 0}, 0, 1 << 20, 1024}, {Config{most, most, 0}, 0, 1<<20 - 1, 1025}, {Config{most, most, 0}, 1, 1 << 20, 1024},
		{Config{most, most, 0}, most - 1, 1 << 20, 1}, {Config{most, most - 1, 0}, 0, 1 << 20, 1024},
		{Config{most, most - 1<<20, 0}, 0, 1 << 20, 1023}, {Config{most, most - 1<<20 + 1, 0}, 0, 1 << 20, 1024},
	} {
		checkWait(t, x.config, x.charge, x.power, x.want)
	}
	for missing := 1; missing <= 60; missing++ {
		want := int64(0)
		for power := 60; power >= 1; power-- {
			for want*int64(power) < int64(missing) {
				want++
			}
			checkWait(t, Config{100, 70, 3}, 70-missing, power, want)
		}
	}
}

// P8.1: a capacitor that is running does not wait, whatever the power; without a valid power, the others have no
// time.
func TestWaitTimeNumbers(t *testing.T) {
	config := Config{Capacity: 100, On: 50, Off: 10}
	valid, invalid := powers()
	for _, power := range append(valid, invalid...) {
		for _, charge := range []int{11, 49, 50, 51, 100} {
			c := charged(t, config, charge, true)
			if n, ok := c.WaitTime(power); n != 0 || !ok {
				t.Errorf("running: WaitTime(%d) = %d, %v", power, n, ok)
			}
			check(t, c, charge, true, "WaitTime, running")
		}
		for _, charge := range []int{0, 10, 11, 49} {
			c := charged(t, config, charge, false)
			n, ok := c.WaitTime(power)
			if want := slices.Contains(valid, power) && power != 0; ok != want || (n != 0) != want {
				t.Errorf("not running: WaitTime(%d) = %d, %v", power, n, ok)
			}
			check(t, c, charge, false, "WaitTime, not running")
		}
	}
	c := charged(t, config, 11, true)
	c.Draw(1)
	if n, ok := c.WaitTime(8); n != 5 || !ok {
		t.Errorf("turned off: WaitTime(8) = %d, %v", n, ok)
	}
	if n, ok := c.WaitTime(0); n != 0 || ok {
		t.Errorf("turned off: WaitTime(0) = %d, %v", n, ok)
	}
}

// P8.1: Guaranteed of every kind of configuration.
func TestGuaranteed(t *testing.T) {
	const most = 1 << 30
	for _, x := range []struct {
		config Config
		want   int
	}{
		{Config{100, 50, 10}, 39}, {Config{100, 11, 10}, 0}, {Config{100, 12, 10}, 1}, {Config{1, 1, 0}, 0}, {Config{2, 2, 0}, 1},
		{Config{2, 2, 1}, 0}, {Config{100, 100, 0}, 99}, {Config{most, most, 0}, most - 1}, {Config{most, most, most - 1}, 0},
		{Config{most, 50, 10}, 39}, {Config{most, most, 1}, most - 2}, {Config{most, most - 1, 0}, most - 2},
	} {
		if n := Guaranteed(x.config); n != x.want {
			t.Errorf("Guaranteed(%v) = %d, want %d", x.config, n, x.want)
		}
	}
	for _, config := range invalidConfigs() {
		if n := Guaranteed(config); n != 0 {
			t.Errorf("Guaranteed(%v) = %d", config, n)
		}
	}
}

// turnsOn returns capacitors that have just turned on: from On exactly and from more, for the first time and
// again.
func turnsOn(t *testing.T, config Config) []*Capacitor {
	t.Helper()
	var l []*Capacitor
	for _, before := range []int{0, config.Off, config.On - 1} {
		for _, charge := range []int{config.On, (config.On + config.Capacity) / 2, config.Capacity} {
			for range 2 {
				l = append(l, charged(t, config, before, false))
			}
			again := l[len(l)-1]
			again.Harvest(1, 1<<30)
			again.Draw(config.Capacity - config.Off)
			check(t, again, config.Off, false, "turned off")
			l[len(l)-2].Harvest(1, int64(charge-before))
			again.Harvest(1, int64(charge-config.Off))
			check(t, l[len(l)-2], charge, true, "turned on")
			check(t, again, charge, true, "turned on again")
		}
	}
	return l
}

// P8.2: after turning on, draws whose sum is at most Guaranteed leave the device on, at once or in parts, with
// harvests in between or without. From a charge of On, one unit more turns it off.
func TestGuaranteedDraws(t *testing.T) {
	g := generator(1)
	l := append(validConfigs(), smallConfigs(6)...)
	for range 200 {
		l = append(l, g.config())
	}
	for _, config := range l {
		for _, c := range turnsOn(t, config) {
			if c.Charge() == config.On {
				d := *c
				if d.Draw(Guaranteed(config) + 1) {
					t.Fatalf("%v: Guaranteed is %d, but it was not the greatest", config, Guaranteed(config))
				}
			}
			harvests := g.below(2) == 0
			for left := Guaranteed(config); ; {
				n := g.below(left + 1)
				if g.below(6) == 0 {
					n = left
				}
				left -= n
				if !c.Draw(n) || !c.Running() {
					t.Fatalf("%v: the device turned off with %d guaranteed units left", config, left)
				}
				if left == 0 {
					break
				}
				if harvests {
					c.Harvest(g.below(3), int64(g.below(3)))
				}
			}
		}
	}
}

// checkPlain compares all that a capacitor tells without being changed with a plain one.
func checkPlain(t *testing.T, c *Capacitor, p *plain, powers []int, text string) {
	t.Helper()
	if got := big.NewInt(int64(c.Charge())); got.Cmp(p.charge) != 0 || c.Running() != p.running {
		t.Fatalf("%s, %v: Charge() = %v, Running() = %v, want %v and %v", text, p.config, got, c.Running(), p.charge, p.running)
	}
	if c.Charge() < 0 || c.Charge() > p.config.Capacity {
		t.Fatalf("%s, %v: Charge() = %d", text, p.config, c.Charge())
	}
	for _, power := range powers {
		n, ok := c.WaitTime(power)
		if want, wantOK := p.waitTime(power); n != want || ok != wantOK {
			t.Fatalf("%s, %v, charge %v: WaitTime(%d) = %d, %v, want %d, %v", text, p.config, p.charge, power, n, ok, want, wantOK)
		}
	}
}

// P8.1, P8.2: every sequence of four small operations, with every small configuration.
func TestEveryShortSequence(t *testing.T) {
	operations := []func(c *Capacitor, p *plain) bool{
		func(c *Capacitor, p *plain) bool { return c.Harvest(0, 3) == p.harvest(0, 3) },
		func(c *Capacitor, p *plain) bool { return c.Harvest(1, 1) == p.harvest(1, 1) },
		func(c *Capacitor, p *plain) bool { return c.Harvest(1, 2) == p.harvest(1, 2) },
		func(c *Capacitor, p *plain) bool { return c.Harvest(3, 1) == p.harvest(3, 1) },
		func(c *Capacitor, p *plain) bool { return c.Harvest(5, 4) == p.harvest(5, 4) },
		func(c *Capacitor, p *plain) bool { return c.Harvest(-1, 1) == p.harvest(-1, 1) },
		func(c *Capacitor, p *plain) bool { return c.Draw(-1) == p.draw(-1) },
		func(c *Capacitor, p *plain) bool { return c.Draw(0) == p.draw(0) },
		func(c *Capacitor, p *plain) bool { return c.Draw(1) == p.draw(1) },
		func(c *Capacitor, p *plain) bool { return c.Draw(2) == p.draw(2) },
		func(c *Capacitor, p *plain) bool { return c.Draw(9) == p.draw(9) },
	}
	k := len(operations)
	for _, config := range smallConfigs(4) {
		for sequence := range k * k * k * k {
			c, p := capacitor(t, config), newPlain(config)
			for rest := sequence; rest > 0; rest /= k {
				if !operations[rest%k](c, p) {
					t.Fatalf("%v, sequence %d: the results differ", config, sequence)
				}
				checkPlain(t, c, p, nil, "an operation")
			}
		}
	}
}

// operate performs an operation with numbers of every kind, and compares its result.
func operate(t *testing.T, g *generator, c *Capacitor, p *plain) {
	t.Helper()
	validPowers, invalidPowers := powers()
	validTicks, invalidTicks := ticks()
	power, n := g.upTo(1<<20), int64(g.upTo(1<<40))
	switch g.below(8) {
	case 0:
		power = pick(g, append(validPowers, invalidPowers...))
	case 1:
		n = pick(g, append(validTicks, invalidTicks...))
	case 2, 3:
		n = int64(g.below(3))
	}
	if g.below(2) == 0 {
		if got, want := c.Harvest(power, n), p.harvest(power, n); got != want {
			t.Fatalf("%v: Harvest(%d, %d) = %d, want %d", p.config, power, n, got, want)
		}
		return
	}
	energy := g.upTo(1 << 31)
	switch g.below(8) {
	case 0:
		energy = pick(g, []int{math.MinInt, -1 << 32, -1, 0, 1, 1 << 30, 1 << 32, math.MaxInt})
	case 1:
		energy = c.Charge() - p.config.Off
	case 2:
		energy = c.Charge() - p.config.Off - 1
	case 3, 4:
		energy = g.below(c.Charge() + 1)
	}
	if got, want := c.Draw(energy), p.draw(energy); got != want {
		t.Fatalf("%v: Draw(%d) = %v, want %v", p.config, energy, got, want)
	}
}

// P8.1, P8.2: any sequence of operations agrees with a capacitor that is kept plainly; the charge is always
// between 0 and Capacity.
func TestOperations(t *testing.T) {
	g := generator(2)
	validPowers, invalidPowers := powers()
	changes := 0
	for range 3000 {
		config := g.config()
		if g.below(4) == 0 {
			config = pick(&g, smallConfigs(6))
		}
		c, p := capacitor(t, config), newPlain(config)
		for range 60 {
			before := c.Running()
			operate(t, &g, c, p)
			checkPlain(t, c, p, []int{1 + g.upTo(1<<20), pick(&g, validPowers), pick(&g, invalidPowers)}, "an operation")
			if c.Running() != before {
				changes++
			}
		}
	}
	if changes < 10000 {
		t.Errorf("only %d times did a device turn on or off", changes)
	}
}

// P1: the zero Capacitor has room for nothing; nothing that is done to it panics.
func TestZeroCapacitor(t *testing.T) {
	valid, invalid := powers()
	for _, power := range append(valid, invalid...) {
		c := &Capacitor{}
		c.WaitTime(power)
		c.Draw(power)
		c.Harvest(power, 1)
		c.WaitTime(power)
		c.Draw(power)
		if c.Charge() != 0 {
			t.Errorf("Charge() = %d", c.Charge())
		}
	}
}
