package powertrace

import (
	"cmp"
	"iter"
	"math"
	"math/big"
	"slices"
	"testing"

	"trickle/api"
)

// schedules is the definition of All for one number of periods: the first energy decides, then those behind it.
func schedules(n, most int, off int64) [][]api.Period {
	if n == 0 {
		return [][]api.Period{nil}
	}
	var all [][]api.Period
	for energy := range most + 1 {
		for _, rest := range schedules(n-1, most, off) {
			all = append(all, append([]api.Period{{Energy: energy, Off: off}}, rest...))
		}
	}
	return all
}

// every is the definition of All.
func every(failures, most int, off int64) [][]api.Period {
	var all [][]api.Period
	for n := 0; n <= failures; n++ {
		all = append(all, schedules(n, most, off)...)
	}
	return all
}

// take returns what a sequence yields first, up to so many schedules.
func take(s iter.Seq[[]api.Period], most int) [][]api.Period {
	var all [][]api.Period
	if most == 0 {
		return nil
	}
	for l := range s {
		all = append(all, l)
		if len(all) == most {
			break
		}
	}
	return all
}

// checkSame compares two lists of schedules.
func checkSame(t *testing.T, what string, got, want [][]api.Period) {
	t.Helper()
	if len(got) != len(want) {
		t.Fatalf("%s: %d schedules, want %d", what, len(got), len(want))
	}
	for i := range got {
		if !slices.Equal(got[i], want[i]) {
			t.Fatalf("%s: schedule %d is %v, want %v", what, i, got[i], want[i])
		}
	}
}

// order compares two schedules: the shorter one is less, and of equal lengths the first energy that differs decides.
func order(a, b []api.Period) int {
	if c := cmp.Compare(len(a), len(b)); c != 0 {
		return c
	}
	for i := range a {
		if c := cmp.Compare(a[i].Energy, b[i].Energy); c != 0 {
			return c
		}
	}
	return 0
}

// P13.3: All in comparison with the definition, and Count with what it yields.
func TestAll(t *testing.T) {
	for failures := -2; failures <= 5; failures++ {
		for most := -2; most <= 5; most++ {
			for _, off := range []int64{1, 7, last} {
				want := every(failures, most, off)
				if most < 0 {
					want = nil
				}
				checkSame(t, "All", slices.Collect(All(failures, most, off)), want)
				if n := Count(failures, most); n != int64(len(want)) {
					t.Fatalf("Count(%d, %d) = %d, want %d", failures, most, n, len(want))
				}
			}
		}
	}
}

// P13.3: lists worked out by hand.
func TestAllByHand(t *testing.T) {
	for _, c := range []struct {
		failures, most int
		off            int64
		want           []string
	}{
		{0, 0, 1, []string{""}},
		{0, 1 << 30, last, []string{""}},
		{math.MinInt, 3, 4, nil},
		{-1, 3, 4, nil},
		{1, 0, 2, []string{"", "0@2"}},
		{3, 0, 1, []string{"", "0@1", "0@1 0@1", "0@1 0@1 0@1"}},
		{1, 3, 5, []string{"", "0@5", "1@5", "2@5", "3@5"}},
		{2, 2, 3, []string{"", "0@3", "1@3", "2@3", "0@3 0@3", "0@3 1@3", "0@3 2@3", "1@3 0@3", "1@3 1@3", "1@3 2@3", "2@3 0@3", "2@3 1@3", "2@3 2@3"}},
	} {
		var got []string
		for l := range All(c.failures, c.most, c.off) {
			got = append(got, format(l))
		}
		if !slices.Equal(got, c.want) || Count(c.failures, c.most) != int64(len(c.want)) {
			t.Errorf("All(%d, %d, %d) yields %q, Count %d, want %q", c.failures, c.most, c.off, got, Count(c.failures, c.most), c.want)
		}
	}
}

// P13.3: arguments for which All yields nothing.
func TestAllNothing(t *testing.T) {
	check := func(failures, most int, off int64) {
		t.Helper()
		for l := range All(failures, most, off) {
			t.Fatalf("All(%d, %d, %d) yields %v", failures, most, off, l)
		}
	}
	for _, failures := range []int{math.MinInt, -1 << 32, -2, -1, 0, 1, 2, 100, 1 << 32, math.MaxInt} {
		for _, most := range slices.Concat(validEnergies(), invalidEnergies()) {
			for _, off := range slices.Concat(validOffs(), invalidOffs()) {
				if failures < 0 || !slices.Contains(validEnergies(), most) || !slices.Contains(validOffs(), off) {
					check(failures, most, off)
				} else if first := take(All(failures, most, off), 1); len(first) != 1 || len(first[0]) != 0 {
					t.Fatalf("All(%d, %d, %d) yields %v first", failures, most, off, first)
				}
			}
		}
	}
}

// P13.3: with the greatest arguments, the first schedules are there at once.
func TestAllLarge(t *testing.T) {
	for _, failures := range []int{1, 2, 3, 1 << 32, math.MaxInt - 1, math.MaxInt} {
		for _, most := range []int{1 << 16, 1<<30 - 1, 1 << 30} {
			for _, off := range []int64{1, last} {
				for i, l := range take(All(failures, most, off), 1000) {
					if i == 0 && len(l) != 0 || i > 0 && !slices.Equal(l, []api.Period{{Energy: i - 1, Off: off}}) {
						t.Fatalf("All(%d, %d, %d): schedule %d is %v", failures, most, off, i, l)
					}
				}
			}
		}
		for i, l := range take(All(failures, 0, 3), 300) {
			if !slices.Equal(l, slices.Repeat([]api.Period{{Energy: 0, Off: 3}}, i)) {
				t.Fatalf("All(%d, 0, 3): schedule %d is %v", failures, i, l)
			}
		}
	}
	// From one energy to two of them, and to the end.
	const most = 300
	i := 0
	for l := range All(2, most, 9) {
		want := []api.Period{{Energy: (i - most - 2) / (most + 1), Off: 9}, {Energy: (i - most - 2) % (most + 1), Off: 9}}
		if i <= most+1 {
			want = schedules(min(i, 1), most, 9)[max(i-1, 0)]
		}
		if !slices.Equal(l, want) {
			t.Fatalf("schedule %d is %v, want %v", i, l, want)
		}
		i++
	}
	if want := 1 + (most + 1) + (most+1)*(most+1); i != want || Count(2, most) != int64(want) {
		t.Errorf("%d schedules, Count %d, want %d", i, Count(2, most), want)
	}
}

// P13.4: random bounds. The schedules ascend strictly, so that none occurs twice; all are valid and within the
// bounds, and they are as many as there can be.
func TestExactlyOnce(t *testing.T) {
	g := generator(10)
	for range 300 {
		failures, most := g.below(12), g.below(12)
		if g.below(3) == 0 {
			failures, most = g.below(2), g.upTo(5000)
		}
		if Count(failures, most) > 20000 {
			continue
		}
		off := 1 + int64(g.upTo(int(last)-1))
		var before []api.Period
		n := int64(0)
		for l := range All(failures, most, off) {
			if n > 0 && order(before, l) >= 0 {
				t.Fatalf("All(%d, %d, %d) yields %v behind %v", failures, most, off, l, before)
			}
			if len(l) > failures || !Valid(l) {
				t.Fatalf("All(%d, %d, %d) yields %v", failures, most, off, l)
			}
			for _, p := range l {
				if p.Energy < 0 || p.Energy > most || p.Off != off {
					t.Fatalf("All(%d, %d, %d) yields %v", failures, most, off, l)
				}
			}
			before = l
			n++
		}
		if want := exactCount(failures, most); n != Count(failures, most) || want.Cmp(big.NewInt(n)) != 0 {
			t.Fatalf("All(%d, %d, %d) yields %d schedules, Count %d, want %d", failures, most, off, n, Count(failures, most), want)
		}
	}
}

// P13.3: a consumer that stops at each schedule in turn is not called again, and may iterate the sequence again.
func TestStop(t *testing.T) {
	for _, bounds := range [][2]int{{0, 0}, {0, 3}, {1, 0}, {4, 0}, {1, 5}, {2, 1}, {3, 2}, {2, 4}} {
		s := All(bounds[0], bounds[1], 11)
		want := every(bounds[0], bounds[1], 11)
		for stop := 1; stop <= len(want); stop++ {
			var got [][]api.Period
			s(func(l []api.Period) bool {
				if len(got) == stop {
					t.Fatalf("All(%v) goes on behind schedule %d", bounds, stop)
				}
				got = append(got, l)
				return len(got) < stop
			})
			checkSame(t, "until the stop", got, want[:stop])
		}
		checkSame(t, "the whole sequence", slices.Collect(s), want)
		checkSame(t, "the same sequence again", slices.Collect(s), want)
	}
}

// P13.3: iterations of one sequence inside each other and in turn do not disturb each other.
func TestNested(t *testing.T) {
	s, want := All(2, 2, 5), every(2, 2, 5)
	i := 0
	for outer := range s {
		checkSame(t, "the inner iteration", slices.Collect(s), want)
		take(s, i)
		if !slices.Equal(outer, want[i]) {
			t.Fatalf("schedule %d is %v, want %v", i, outer, want[i])
		}
		i++
	}
	if i != len(want) {
		t.Fatalf("%d schedules, want %d", i, len(want))
	}
	first, stopFirst := iter.Pull(s)
	defer stopFirst()
	second, stopSecond := iter.Pull(s)
	defer stopSecond()
	first()
	for i := range want {
		a, _ := second()
		b, ok := first()
		if !slices.Equal(a, want[i]) || ok != (i+1 < len(want)) || ok && !slices.Equal(b, want[i+1]) {
			t.Fatalf("in turn: %v and %v, %v at %d", a, b, ok, i)
		}
	}
}

// P13.3: each schedule lies in new memory: the consumer may change it, and it does not change later.
func TestAllMemory(t *testing.T) {
	for _, bounds := range [][2]int{{1, 0}, {5, 0}, {1, 9}, {4, 2}, {6, 1}} {
		s := All(bounds[0], bounds[1], 6)
		want := every(bounds[0], bounds[1], 6)
		var kept, copies, spoilt [][]api.Period
		for l := range s {
			kept = append(kept, l)
			copies = append(copies, slices.Clone(l))
		}
		checkSame(t, "when they are yielded", copies, want)
		checkSame(t, "at the end", kept, want)
		for l := range s {
			spoilt = append(spoilt, slices.Clone(l))
			for i := range l {
				l[i] = api.Period{Energy: -5, Off: -5}
			}
			_ = append(l, api.Period{Energy: 55, Off: 55})
			l = l[:cap(l)]
			for i := range l {
				l[i] = api.Period{Energy: bounds[1], Off: 99}
			}
		}
		checkSame(t, "when the consumer changes them", spoilt, want)
		checkSame(t, "when others are changed", kept, want)
		checkSame(t, "again", slices.Collect(s), want)
		for i, l := range kept {
			for j := range l {
				l[j].Energy = i
			}
		}
		for i, l := range kept {
			for j := range l {
				if l[j].Energy != i {
					t.Fatalf("All(%v): schedule %d shares memory with another one", bounds, i)
				}
			}
		}
	}
}

// exactCount is the definition of Count without its limit: the sum of the powers of the number of energies.
func exactCount(failures, most int) *big.Int {
	sum := new(big.Int)
	if failures < 0 || most < 0 || most > 1<<30 {
		return sum
	}
	energies := new(big.Int).Add(big.NewInt(int64(most)), big.NewInt(1))
	for n := range failures + 1 {
		sum.Add(sum, new(big.Int).Exp(energies, big.NewInt(int64(n)), nil))
	}
	return sum
}

// limited returns a count, or the limit if it is greater.
func limited(n *big.Int) int64 {
	limit := new(big.Int).Exp(big.NewInt(2), big.NewInt(62), nil)
	if n.Cmp(limit) > 0 {
		n = limit
	}
	return n.Int64()
}

// checkCount compares Count with the definition.
func checkCount(t *testing.T, failures, most int) int64 {
	t.Helper()
	got := Count(failures, most)
	if want := limited(exactCount(failures, most)); got != want {
		t.Fatalf("Count(%d, %d) = %d, want %d", failures, most, got, want)
	}
	return got
}

// P13.3: Count at all edges and for many numbers of failures.
func TestCount(t *testing.T) {
	for failures := -3; failures <= 130; failures++ {
		for _, most := range slices.Concat(validEnergies(), invalidEnergies()) {
			checkCount(t, failures, most)
		}
		for most := -3; most <= 300; most++ {
			checkCount(t, failures, most)
		}
	}
	for _, failures := range []int{math.MinInt, math.MinInt + 1, -1 << 32} {
		for _, most := range slices.Concat(validEnergies(), invalidEnergies()) {
			checkCount(t, failures, most)
		}
	}
	g := generator(11)
	for range 20000 {
		checkCount(t, g.below(80)-5, g.upTo(1<<30+5))
	}
}

// P13.3: Count with large arguments, by hand. With the energy 0 alone there is one schedule of each length.
func TestCountLarge(t *testing.T) {
	const limit = int64(1) << 62
	for _, c := range []struct {
		failures, most int
		want           int64
	}{
		{1 << 20, 0, 1<<20 + 1}, {1 << 32, 0, 1<<32 + 1}, {1<<62 - 3, 0, limit - 2}, {1<<62 - 2, 0, limit - 1}, {1<<62 - 1, 0, limit}, {1 << 62, 0, limit}, {1<<62 + 1, 0, limit},
		{math.MaxInt - 1, 0, limit}, {math.MaxInt, 0, limit}, {math.MinInt, 0, 0}, {-1, 0, 0}, {0, 0, 1}, {1, 0, 2},
		{59, 1, 1<<60 - 1}, {60, 1, 1<<61 - 1}, {61, 1, limit - 1}, {62, 1, limit}, {63, 1, limit}, {64, 1, limit}, {65, 1, limit}, {1 << 32, 1, limit}, {math.MaxInt, 1, limit},
		{1, 1 << 30, 1<<30 + 2}, {2, 1 << 30, 1 + (1<<30 + 1) + (1<<30+1)*(1<<30+1)}, {3, 1 << 30, limit}, {4, 1 << 30, limit}, {math.MaxInt, 1 << 30, limit}, {math.MaxInt - 1, 1<<30 - 1, limit},
		{30, 3, (1<<62 - 1) / 3}, {31, 3, limit}, {math.MaxInt, 1<<30 + 1, 0}, {math.MaxInt, -1, 0}, {math.MaxInt, math.MinInt, 0}, {math.MinInt, math.MaxInt, 0}, {math.MaxInt, math.MaxInt, 0},
	} {
		if got := Count(c.failures, c.most); got != c.want {
			t.Errorf("Count(%d, %d) = %d, want %d", c.failures, c.most, got, c.want)
		}
	}
}

// P13.3: for each number of failures, the greatest energy for which the count is within the limit, and those next to it.
func TestCountLimit(t *testing.T) {
	const limit = int64(1) << 62
	reached := 0
	for failures := 1; failures <= 62; failures++ {
		within, beyond := 0, 1<<30+1
		for beyond-within > 1 {
			most := (within + beyond) / 2
			if exactCount(failures, most).Cmp(big.NewInt(limit)) <= 0 {
				within = most
			} else {
				beyond = most
			}
		}
		for most := within - 2; most <= beyond+2; most++ {
			if checkCount(t, failures, most) == limit {
				reached++
			}
		}
	}
	if reached < 100 {
		t.Errorf("only %d counts reach the limit", reached)
	}
}
