package powertrace

import (
	"fmt"
	"math"
	"slices"
	"testing"

	"trickle/api"
)

const last = api.MaxTime

// generator makes numbers that follow no simple rule. Its value is never 0.
type generator uint64

// below returns a number from 0 to n-1.
func (g *generator) below(n int) int {
	*g ^= *g << 13
	*g ^= *g >> 7
	*g ^= *g << 17
	return int((uint64(*g) >> 20) % uint64(n))
}

// pick returns one of some values.
func pick[T any](g *generator, l []T) T { return l[g.below(len(l))] }

// upTo returns a number from 0 to n, which has any number of digits with about the same frequency.
func (g *generator) upTo(n int) int {
	return min(g.below(1<<g.below(43)), n)
}

// period returns a valid period of any size, often with numbers at the ends of what is valid.
func (g *generator) period() api.Period {
	p := api.Period{Energy: g.upTo(1 << 30), Off: 1 + int64(g.upTo(int(last)-1))}
	if g.below(4) == 0 {
		p.Energy = pick(g, validEnergies())
	}
	if g.below(4) == 0 {
		p.Off = pick(g, validOffs())
	}
	return p
}

// schedule returns a valid schedule of up to so many periods.
func (g *generator) schedule(most int) []api.Period {
	var l []api.Period
	for range g.below(most + 1) {
		l = append(l, g.period())
	}
	return l
}

// The energies and off times at and around the ends of what is valid, and of all integers.
func validEnergies() []int {
	return []int{0, 1, 2, 9, 10, 99, 100, 1 << 16, 1<<30 - 2, 1<<30 - 1, 1 << 30}
}

func invalidEnergies() []int {
	return []int{math.MinInt, math.MinInt + 1, -1 << 40, -1 << 32, -1 << 31, -1 << 30, -2, -1, 1<<30 + 1, 1<<30 + 2, 1<<31 - 1, 1 << 31, 1 << 32, 1<<32 + 1, 1 << 40, math.MaxInt - 1, math.MaxInt}
}

func validOffs() []int64 {
	return []int64{1, 2, 9, 10, 99, 100, 1 << 16, 1<<31 - 1, 1 << 31, 1<<32 - 1, 1 << 32, last - 2, last - 1, last}
}

func invalidOffs() []int64 {
	return []int64{math.MinInt64, math.MinInt64 + 1, -last - 1, -last, -1 << 32, -2, -1, 0, last + 1, last + 2, 2 * last, 1 << 62, math.MaxInt64 - 1, math.MaxInt64}
}

// invalidPeriods returns periods that are not valid: each invalid number with each valid or invalid other one.
func invalidPeriods() []api.Period {
	var l []api.Period
	for _, energy := range invalidEnergies() {
		for _, off := range slices.Concat(validOffs(), invalidOffs()) {
			l = append(l, api.Period{Energy: energy, Off: off})
		}
	}
	for _, energy := range validEnergies() {
		for _, off := range invalidOffs() {
			l = append(l, api.Period{Energy: energy, Off: off})
		}
	}
	return l
}

// checkValid tests that a schedule is valid and has a text, and that the functions do not change it.
func checkValid(t *testing.T, l []api.Period, text string) {
	t.Helper()
	given := slices.Clone(l)
	if !Valid(l) {
		t.Fatalf("Valid(%v) = false", l)
	}
	if got := Format(l); got != text {
		t.Fatalf("Format(%v) = %q, want %q", l, got, text)
	}
	if m, e := Start(l); m == nil || e != api.OK {
		t.Fatalf("Start(%v) = %v, %d", l, m, e)
	}
	if !slices.Equal(l, given) {
		t.Fatalf("%v has become %v", given, l)
	}
}

// checkRefused tests that a schedule is not valid.
func checkRefused(t *testing.T, l []api.Period) {
	t.Helper()
	given := slices.Clone(l)
	if Valid(l) {
		t.Fatalf("Valid(%v) = true", l)
	}
	if got := Format(l); got != "" {
		t.Fatalf("Format(%v) = %q", l, got)
	}
	if m, e := Start(l); m != nil || e != api.ErrInvalid {
		t.Fatalf("Start(%v) = %v, %d", l, m, e)
	}
	if !slices.Equal(l, given) {
		t.Fatalf("%v has become %v", given, l)
	}
}

// P13.1 to P13.3: the chapter's examples.
func TestExamples(t *testing.T) {
	const text = "40@100 0@5"
	want := []api.Period{{Energy: 40, Off: 100}, {Energy: 0, Off: 5}}
	l, number, e := Parse(text)
	if !slices.Equal(l, want) || number != 0 || e != api.OK {
		t.Fatalf("Parse(%q) = %v, %d, %d", text, l, number, e)
	}
	checkValid(t, l, text)
	m := start(t, l)
	check := func(did string, failed bool, left, periods int) {
		t.Helper()
		if m.Failed() != failed || m.Left() != left || m.Periods() != periods {
			t.Fatalf("%s: failed %v, left %d, periods %d", did, m.Failed(), m.Left(), m.Periods())
		}
	}
	check("at the start", false, 40, 0)
	if !m.Spend(40) {
		t.Fatal("40 units cannot be used")
	}
	check("40 units used", false, 0, 0)
	if m.Spend(1) {
		t.Fatal("more than 40 units are used")
	}
	check("the first failure", true, 0, 1)
	if off, ok := m.Next(); off != 100 || !ok {
		t.Fatalf("Next() = %d, %v", off, ok)
	}
	check("the second period", false, 0, 1)
	if m.Spend(1) {
		t.Fatal("energy is used in the second period")
	}
	check("the second failure", true, 0, 2)
	if off, ok := m.Next(); off != 5 || !ok {
		t.Fatalf("Next() = %d, %v", off, ok)
	}
	check("after the last period", false, -1, 2)
	var texts []string
	for l := range All(2, 1, 7) {
		texts = append(texts, Format(l))
	}
	if !slices.Equal(texts, []string{"", "0@7", "1@7", "0@7 0@7", "0@7 1@7", "1@7 0@7", "1@7 1@7"}) || Count(2, 1) != 7 {
		t.Fatalf("All(2, 1, 7) yields %q, and Count(2, 1) = %d", texts, Count(2, 1))
	}
}

// P13.1: schedules without periods.
func TestNoPeriods(t *testing.T) {
	checkValid(t, nil, "")
	checkValid(t, []api.Period{}, "")
	if l, number, e := Parse(""); len(l) != 0 || number != 0 || e != api.OK {
		t.Errorf("Parse of the empty text = %v, %d, %d", l, number, e)
	}
}

// P13.1, P13.2: one period with every pair of edge numbers.
func TestOnePeriod(t *testing.T) {
	for _, energy := range validEnergies() {
		for _, off := range validOffs() {
			checkValid(t, []api.Period{{Energy: energy, Off: off}}, fmt.Sprintf("%d@%d", energy, off))
		}
	}
	for _, p := range invalidPeriods() {
		checkRefused(t, []api.Period{p})
	}
	// The zero period has no off time.
	checkRefused(t, make([]api.Period, 1))
	checkRefused(t, make([]api.Period, 3))
}

// P13.1, P13.2: every valid or invalid period at each place of schedules of two to five periods.
func TestPlaces(t *testing.T) {
	g := generator(1)
	for n := 2; n <= 5; n++ {
		for i := range n {
			l := make([]api.Period, n)
			for j := range l {
				l[j] = g.period()
			}
			for _, energy := range validEnergies() {
				for _, off := range validOffs() {
					l[i] = api.Period{Energy: energy, Off: off}
					checkValid(t, l, format(l))
				}
			}
			for _, p := range invalidPeriods() {
				l[i] = p
				checkRefused(t, l)
			}
		}
	}
}

// P13.1, P13.2: two periods that are not valid, at all places.
func TestTwoInvalid(t *testing.T) {
	g := generator(2)
	invalid := invalidPeriods()
	for range 2000 {
		l := append(g.schedule(10), g.period(), g.period())
		i := g.below(len(l))
		j := g.below(len(l))
		l[i], l[j] = pick(&g, invalid), pick(&g, invalid)
		checkRefused(t, l)
	}
}

// P13.1: texts worked out by hand.
func TestTexts(t *testing.T) {
	for _, c := range []struct {
		l    []api.Period
		text string
	}{
		{nil, ""},
		{[]api.Period{{Energy: 0, Off: 1}}, "0@1"},
		{[]api.Period{{Energy: 7, Off: 10}}, "7@10"},
		{[]api.Period{{Energy: 40, Off: 100}, {Energy: 0, Off: 5}}, "40@100 0@5"},
		{[]api.Period{{Energy: 1 << 30, Off: last}}, "1073741824@1099511627776"},
		{[]api.Period{{Energy: 1<<30 - 1, Off: last - 1}, {Energy: 1, Off: 1}}, "1073741823@1099511627775 1@1"},
		{[]api.Period{{Energy: 0, Off: 2}, {Energy: 0, Off: 2}, {Energy: 0, Off: 2}}, "0@2 0@2 0@2"},
		{[]api.Period{{Energy: 10, Off: 9}, {Energy: 9, Off: 10}, {Energy: 100, Off: 99}, {Energy: 99, Off: 1000}}, "10@9 9@10 100@99 99@1000"},
	} {
		checkValid(t, c.l, c.text)
		if l, number := meaning(c.text); !slices.Equal(l, c.l) || number != 0 {
			t.Errorf("the definition: %v, word %d", l, number)
		}
		if !checkParse(t, c.text) {
			t.Errorf("%q is not valid", c.text)
		}
	}
}

// P13.1: every energy and every off time of few digits, and those around the ends of what is valid.
func TestEveryNumber(t *testing.T) {
	var energies []int
	var offs []int64
	for n := -1100; n <= 11000; n++ {
		energies = append(energies, n)
		offs = append(offs, int64(n))
	}
	for d := -300; d <= 300; d++ {
		energies = append(energies, 1<<30+d, 1<<31+d, 1<<32+d)
		offs = append(offs, last+int64(d), 1<<32+int64(d), 2*last+int64(d))
	}
	for i, energy := range energies {
		off := offs[i]
		for _, p := range []api.Period{{Energy: energy, Off: 7}, {Energy: 7, Off: off}, {Energy: energy, Off: off}} {
			valid := 0 <= p.Energy && p.Energy <= 1073741824 && 1 <= p.Off && p.Off <= 1099511627776
			s := fmt.Sprintf("%d@%d", p.Energy, p.Off)
			if checkParse(t, s) != valid {
				t.Fatalf("%q: the definition is wrong", s)
			}
			if l := []api.Period{p}; valid {
				checkValid(t, l, s)
			} else {
				checkRefused(t, l)
			}
		}
	}
}
