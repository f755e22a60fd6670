package sensor

import (
	"math"
	"slices"
	"testing"

	"trickle/api"
)

const last = api.MaxTime

// generator makes numbers that follow no simple rule. Its value is never 0.
type generator uint64

// below returns a number from 0 to n-1.
func (g *generator) below(n int) int {
	*g ^= *g << 13
	*g ^= *g >> 7
	*g ^= *g << 17
	return int((uint64(*g) >> 20) % uint64(n))
}

// pick returns one of some values.
func pick[T any](g *generator, l []T) T { return l[g.below(len(l))] }

// value returns a value, often one of those at the ends and around 0, so that consecutive ones are equal now and then.
func (g *generator) value() int16 {
	if g.below(2) == 0 {
		return pick(g, values())
	}
	return int16(g.below(1<<16) - 1<<15)
}

// changes returns the changes of a valid trace, with times close to each other, anywhere, or close to MaxTime.
func (g *generator) changes(most int) []Change {
	times := map[int64]bool{}
	span := 1 << g.below(41)
	start := int64(g.below(int(last) - span + 2))
	if g.below(3) > 0 {
		start = pick(g, []int64{0, last + 1 - int64(span)})
	}
	for range g.below(most + 1) {
		times[start+int64(g.below(span))] = true
	}
	var l []Change
	for time := range times {
		l = append(l, Change{Time: time})
	}
	slices.SortFunc(l, func(a, b Change) int { return int(a.Time - b.Time) })
	for i := range l {
		l[i].Value = g.value()
	}
	return l
}

// values are those at both ends and around 0.
func values() []int16 { return []int16{-32768, -32767, -1, 0, 1, 32766, 32767} }

// validTimes are times of changes in ascending order: those next to 0 and to MaxTime, and others in between.
func validTimes() []int64 {
	return []int64{0, 1, 2, 9, 10, 255, 1 << 16, 1<<31 - 1, 1 << 31, 1<<32 - 1, 1 << 32, last / 2, last - 2, last - 1, last}
}

// earlyTimes and lateTimes are integers in ascending order that are no times of changes.
func earlyTimes() []int64 {
	return []int64{math.MinInt64, math.MinInt64 + 1, -1 << 62, -last - 1, -last, -1 << 32, -1 << 31, -2, -1}
}

func lateTimes() []int64 {
	return []int64{last + 1, last + 2, 2 * last, 1 << 62, math.MaxInt64 - 1, math.MaxInt64}
}

// numbers returns all of them in ascending order.
func numbers() []int64 { return slices.Concat(earlyTimes(), validTimes(), lateTimes()) }

// trace returns the trace of some changes.
func trace(t *testing.T, l ...Change) *Trace {
	t.Helper()
	x, e := New(l)
	if x == nil || e != api.OK {
		t.Fatalf("New(%v) = %v, %d", l, x, e)
	}
	if !slices.Equal(x.Changes(), l) {
		t.Fatalf("Changes() = %v, want %v", x.Changes(), l)
	}
	return x
}

// refuse tests that there is no trace of some changes.
func refuse(t *testing.T, l ...Change) {
	t.Helper()
	if x, e := New(l); x != nil || e != api.ErrInvalid {
		t.Fatalf("New(%v) = %v, %d", l, x, e)
	}
}

// at is the definition of At: each change that is not after the time has the last word in turn.
func at(l []Change, time int64) int16 {
	value := int16(0)
	for _, c := range l {
		if c.Time <= time {
			value = c.Value
		}
	}
	return value
}

// next is the definition of Next: of the changes after the time, each one in front of another takes its place.
func next(l []Change, time int64) (Change, bool) {
	found, ok := Change{}, false
	for _, c := range slices.Backward(l) {
		if c.Time > time {
			found, ok = c, true
		}
	}
	return found, ok
}

// checkTime compares At and Next with the definitions.
func checkTime(t *testing.T, x *Trace, l []Change, time int64) {
	t.Helper()
	if got, want := x.At(time), at(l, time); got != want {
		t.Fatalf("%v: At(%d) = %d, want %d", l, time, got, want)
	}
	got, ok := x.Next(time)
	if want, found := next(l, time); got != want || ok != found {
		t.Fatalf("%v: Next(%d) = %v, %v, want %v, %v", l, time, got, ok, want, found)
	}
}

// checkTimes compares At and Next with the definitions around each change and at the edges.
func checkTimes(t *testing.T, x *Trace, l []Change) {
	t.Helper()
	for _, time := range numbers() {
		checkTime(t, x, l, time)
	}
	for _, c := range l {
		for d := range int64(5) {
			checkTime(t, x, l, c.Time+d-2)
		}
	}
}

// P10.1, P10.2: the chapter's examples.
func TestExamples(t *testing.T) {
	const text = "5 20\n9 -3\n"
	l := []Change{{5, 20}, {9, -3}}
	parsed, number, e := Parse(text)
	if parsed == nil || number != 0 || e != api.OK {
		t.Fatalf("Parse(%q) = %v, %d, %d", text, parsed, number, e)
	}
	for _, x := range []*Trace{parsed, trace(t, l...)} {
		for time := int64(-10); time < 30; time++ {
			want := int16(-3)
			if time < 5 {
				want = 0
			} else if time <= 8 {
				want = 20
			}
			if got := x.At(time); got != want {
				t.Errorf("At(%d) = %d, want %d", time, got, want)
			}
		}
		if c, ok := x.Next(5); c != l[1] || !ok {
			t.Errorf("Next(5) = %v, %v", c, ok)
		}
		if got := x.Changes(); !slices.Equal(got, l) {
			t.Errorf("Changes() = %v", got)
		}
		if got := x.Format(); got != text {
			t.Errorf("Format() = %q", got)
		}
	}
}

// P10.1: values and changes worked out by hand.
func TestByHand(t *testing.T) {
	x := trace(t, Change{0, -1}, Change{1, 7}, Change{4, 7}, Change{10, 0}, Change{last - 1, -32768}, Change{last, 32767})
	for _, c := range []struct {
		time  int64
		value int16
		next  Change
		ok    bool
	}{
		{math.MinInt64, 0, Change{0, -1}, true},
		{-2, 0, Change{0, -1}, true},
		{-1, 0, Change{0, -1}, true},
		{0, -1, Change{1, 7}, true},
		{1, 7, Change{4, 7}, true},
		{3, 7, Change{4, 7}, true},
		{4, 7, Change{10, 0}, true},
		{9, 7, Change{10, 0}, true},
		{10, 0, Change{last - 1, -32768}, true},
		{11, 0, Change{last - 1, -32768}, true},
		{last - 2, 0, Change{last - 1, -32768}, true},
		{last - 1, -32768, Change{last, 32767}, true},
		{last, 32767, Change{}, false},
		{last + 1, 32767, Change{}, false},
		{math.MaxInt64, 32767, Change{}, false},
	} {
		if got := x.At(c.time); got != c.value {
			t.Errorf("At(%d) = %d, want %d", c.time, got, c.value)
		}
		if got, ok := x.Next(c.time); got != c.next || ok != c.ok {
			t.Errorf("Next(%d) = %v, %v, want %v, %v", c.time, got, ok, c.next, c.ok)
		}
	}
}

// P10.1: a trace without changes.
func TestNoChanges(t *testing.T) {
	parsed, number, e := Parse("")
	if parsed == nil || number != 0 || e != api.OK {
		t.Fatalf("Parse of the empty text = %v, %d, %d", parsed, number, e)
	}
	fromEmpty, e := New([]Change{})
	if fromEmpty == nil || e != api.OK {
		t.Fatalf("New of an empty slice = %v, %d", fromEmpty, e)
	}
	fromNil, e := New(nil)
	if fromNil == nil || e != api.OK {
		t.Fatalf("New(nil) = %v, %d", fromNil, e)
	}
	for _, x := range []*Trace{parsed, fromEmpty, fromNil} {
		if l := x.Changes(); len(l) != 0 {
			t.Errorf("Changes() = %v", l)
		}
		if s := x.Format(); s != "" {
			t.Errorf("Format() = %q", s)
		}
		for _, time := range numbers() {
			if v := x.At(time); v != 0 {
				t.Errorf("At(%d) = %d", time, v)
			}
			if c, ok := x.Next(time); c != (Change{}) || ok {
				t.Errorf("Next(%d) = %v, %v", time, c, ok)
			}
		}
	}
}

// P10.1: one change at every edge time with every edge value.
func TestOneChange(t *testing.T) {
	for _, v := range values() {
		for _, time := range validTimes() {
			l := []Change{{time, v}}
			checkTimes(t, trace(t, l...), l)
		}
		for _, time := range slices.Concat(earlyTimes(), lateTimes()) {
			refuse(t, Change{time, v})
		}
	}
}

// P10.1: two changes at every pair of edge times; the places in the sorted list tell whether the times ascend.
func TestTwoChanges(t *testing.T) {
	l := numbers()
	zero, most := slices.Index(l, 0), slices.Index(l, last)
	for i, a := range l {
		for j, b := range l {
			for _, v := range []int16{-3, 20} {
				pair := []Change{{a, 20}, {b, v}}
				if zero <= i && i < j && j <= most {
					checkTimes(t, trace(t, pair...), pair)
				} else {
					refuse(t, pair...)
				}
			}
		}
	}
}

// P10.1: one time that is not valid, or not greater than the one before it, at every place of a longer list.
func TestNewPlaces(t *testing.T) {
	var l []Change
	for i := range 12 {
		l = append(l, Change{int64(10 * i), int16(i)})
	}
	trace(t, l...)
	with := func(i int, time int64) []Change {
		changed := slices.Clone(l)
		changed[i].Time = time
		return changed
	}
	for i, c := range l {
		for _, time := range slices.Concat(earlyTimes(), lateTimes()) {
			refuse(t, with(i, time)...)
		}
		if i > 0 {
			for _, time := range []int64{0, l[i-1].Time - 1, l[i-1].Time} {
				refuse(t, with(i, time)...)
			}
			trace(t, with(i, l[i-1].Time+1)...)
		}
		if i+1 < len(l) {
			for _, time := range []int64{l[i+1].Time, l[i+1].Time + 1, last} {
				refuse(t, with(i, time)...)
			}
			trace(t, with(i, l[i+1].Time-1)...)
		}
		refuse(t, slices.Insert(slices.Clone(l), i, c)...)
	}
	trace(t, with(len(l)-1, last)...)
	descending := slices.Clone(l)
	slices.Reverse(descending)
	refuse(t, descending...)
}

// P10.1: two invalid places, so that either of them alone is the error too.
func TestNewErrors(t *testing.T) {
	refuse(t, Change{5, 1}, Change{5, 2}, Change{5, 3})
	refuse(t, Change{-1, 1}, Change{-1, 2})
	refuse(t, Change{-1, 1}, Change{last + 1, 2})
	refuse(t, Change{last + 1, 1}, Change{0, 2})
	refuse(t, Change{last, 1}, Change{last, 2})
	refuse(t, Change{last, 1}, Change{last + 1, 2})
	refuse(t, Change{last + 1, 1}, Change{last + 2, 2})
	refuse(t, Change{math.MaxInt64, 1}, Change{math.MinInt64, 2})
	refuse(t, Change{math.MinInt64, 1}, Change{math.MaxInt64, 2})
}

// P10.1: the traces of all sets of short times, at all times around them.
func TestShort(t *testing.T) {
	const span = 8
	for set := range 1 << span {
		for _, start := range []int64{0, 1, 1000, last - span + 1} {
			var l []Change
			for i := range span {
				if set>>i&1 == 1 {
					// Some neighbours have the same value, and some values are 0.
					l = append(l, Change{start + int64(i), int16(i/3 - 1)})
				}
			}
			x := trace(t, l...)
			for d := range int64(span + 6) {
				checkTime(t, x, l, start+d-3)
			}
			checkTimes(t, x, l)
		}
	}
}

// P10.1, P10.2: changes to the same value remain changes, of which the value tells nothing.
func TestSameValue(t *testing.T) {
	for _, v := range values() {
		l := []Change{{0, v}, {3, v}, {4, v}, {last, v}}
		x := trace(t, l...)
		checkTimes(t, x, l)
		visit(t, x, l, math.MinInt64)
		for _, time := range slices.Concat(validTimes(), lateTimes()) {
			if got := x.At(time); got != v {
				t.Errorf("At(%d) = %d, want %d", time, got, v)
			}
		}
	}
}

// visit tests that iterating over Next, from a time ahead of all changes, visits all of them in order.
func visit(t *testing.T, x *Trace, l []Change, time int64) {
	t.Helper()
	for i, want := range l {
		c, ok := x.Next(time)
		if c != want || !ok {
			t.Fatalf("%v: change %d is %v, %v", l, i, c, ok)
		}
		time = c.Time
	}
	if c, ok := x.Next(time); c != (Change{}) || ok {
		t.Fatalf("%v: behind the last change: %v, %v", l, c, ok)
	}
}

// checkConstant tests that the value is the same from a time up to the next change, and which one it is.
func checkConstant(t *testing.T, g *generator, x *Trace, from, to int64, value int16) {
	t.Helper()
	times := []int64{from, to - 1, from + (to-from)/2, from + int64(g.below(int(to-from))), from + int64(g.below(int(to-from)))}
	if to-from < 20 {
		for time := from; time < to; time++ {
			times = append(times, time)
		}
	}
	for _, time := range times {
		if got := x.At(time); got != value {
			t.Fatalf("%v: At(%d) = %d, want %d, as from %d to %d", x.Changes(), time, got, value, from, to-1)
		}
	}
}

// P10.1, P10.2: random traces. Next visits all changes in order, and the value is constant in between.
func TestConstantBetweenChanges(t *testing.T) {
	g := generator(1)
	for range 3000 {
		l := g.changes(30)
		x := trace(t, l...)
		checkTimes(t, x, l)
		visit(t, x, l, pick(&g, earlyTimes()))
		from, value := int64(-1<<40), int16(0)
		for {
			c, ok := x.Next(from)
			if !ok {
				checkConstant(t, &g, x, from, 1<<41, value)
				break
			}
			checkConstant(t, &g, x, from, c.Time, value)
			from, value = c.Time, c.Value
		}
		if n := len(l); n > 0 && (from != l[n-1].Time || value != l[n-1].Value) {
			t.Fatalf("%v: the last change is %d %d", l, from, value)
		}
	}
}

// P10.1: a trace with many changes.
func TestManyChanges(t *testing.T) {
	const n = 100000
	g := generator(2)
	var l []Change
	for i := range n {
		l = append(l, Change{int64(10*i + g.below(10)), g.value()})
	}
	x := trace(t, l...)
	visit(t, x, l, -1)
	for i := range n - 1 {
		for _, time := range []int64{l[i].Time, l[i].Time + int64(g.below(int(l[i+1].Time-l[i].Time))), l[i+1].Time - 1} {
			if got := x.At(time); got != l[i].Value {
				t.Fatalf("At(%d) = %d, want %d", time, got, l[i].Value)
			}
			if c, ok := x.Next(time); c != l[i+1] || !ok {
				t.Fatalf("Next(%d) = %v, %v, want %v", time, c, ok, l[i+1])
			}
		}
	}
	refuse(t, append(l, l[n-1])...)
}

// P10.1: Merge by hand, of no traces, one trace, and the same trace twice.
func TestMerge(t *testing.T) {
	a := trace(t, Change{5, 20}, Change{9, -3})
	b := trace(t, Change{0, 32767}, Change{7, -32768}, Change{last, -1})
	none := trace(t)
	for _, c := range []struct {
		l    []*Trace
		time int64
		want []int16
	}{
		{[]*Trace{a, b, none}, math.MinInt64, []int16{0, 0, 0}},
		{[]*Trace{a, b, none}, -1, []int16{0, 0, 0}},
		{[]*Trace{a, b, none}, 0, []int16{0, 32767, 0}},
		{[]*Trace{a, b, none}, 5, []int16{20, 32767, 0}},
		{[]*Trace{b, a, none}, 5, []int16{32767, 20, 0}},
		{[]*Trace{none, a, b}, 7, []int16{0, 20, -32768}},
		{[]*Trace{a, b}, 8, []int16{20, -32768}},
		{[]*Trace{a, b}, 9, []int16{-3, -32768}},
		{[]*Trace{a, b}, last - 1, []int16{-3, -32768}},
		{[]*Trace{a, b}, last, []int16{-3, -1}},
		{[]*Trace{a, b}, last + 1, []int16{-3, -1}},
		{[]*Trace{a, b}, math.MaxInt64, []int16{-3, -1}},
		{[]*Trace{a}, 6, []int16{20}},
		{[]*Trace{none}, 6, []int16{0}},
		{[]*Trace{a, a}, 6, []int16{20, 20}},
		{[]*Trace{a, b, a}, 7, []int16{20, -32768, 20}},
		{[]*Trace{b, b, b, b, b, b, b, b, b, a}, 3, []int16{32767, 32767, 32767, 32767, 32767, 32767, 32767, 32767, 32767, 0}},
	} {
		if got := Merge(c.l, c.time); !slices.Equal(got, c.want) {
			t.Errorf("Merge at %d = %v, want %v", c.time, got, c.want)
		}
	}
	for _, time := range numbers() {
		if got := Merge(nil, time); len(got) != 0 {
			t.Errorf("Merge(nil, %d) = %v", time, got)
		}
		if got := Merge([]*Trace{}, time); len(got) != 0 {
			t.Errorf("Merge of no traces at %d = %v", time, got)
		}
	}
}

// P10.1: Merge agrees with At of each trace and with the definition, also if traces occur several times.
func TestMergeAgrees(t *testing.T) {
	g := generator(3)
	for range 1000 {
		var all []*Trace
		var lists [][]Change
		for range 1 + g.below(5) {
			l := g.changes(8)
			lists = append(lists, l)
			all = append(all, trace(t, l...))
		}
		var traces []*Trace
		var chosen [][]Change
		for range g.below(12) {
			i := g.below(len(all))
			traces, chosen = append(traces, all[i]), append(chosen, lists[i])
		}
		times := numbers()
		for _, l := range lists {
			for _, c := range l {
				times = append(times, c.Time-1, c.Time, c.Time+1)
			}
		}
		for _, time := range times {
			got := Merge(traces, time)
			if len(got) != len(traces) {
				t.Fatalf("Merge of %d traces has %d values", len(traces), len(got))
			}
			for i, x := range traces {
				if got[i] != x.At(time) || got[i] != at(chosen[i], time) {
					t.Fatalf("Merge at %d: value %d of %v, not %d", time, got[i], chosen[i], x.At(time))
				}
			}
		}
	}
}

// P10.1: a trace shares no memory with what it was made of, or with what it returned.
func TestMemory(t *testing.T) {
	want := []Change{{5, 20}, {9, -3}, {12, 4}}
	spoil := func(l []Change) {
		_ = append(l[:1], Change{6, 66})
		for i := range l {
			l[i] = Change{-7, 77}
		}
		_ = append(l, Change{13, 88})
	}
	// With room behind its changes, the slice can be appended to in place.
	given := append(make([]Change, 0, 10), want...)
	x, e := New(given)
	if e != api.OK || !slices.Equal(given, want) {
		t.Fatalf("New of %v: %d", given, e)
	}
	spoil(given)
	check := func(text string) {
		t.Helper()
		if l := x.Changes(); !slices.Equal(l, want) {
			t.Fatalf("%s: Changes() = %v", text, l)
		}
		if s := x.Format(); s != "5 20\n9 -3\n12 4\n" {
			t.Fatalf("%s: Format() = %q", text, s)
		}
		checkTimes(t, x, want)
	}
	check("the given slice is changed")
	first, second := x.Changes(), x.Changes()
	spoil(first)
	check("the returned slice is changed")
	if !slices.Equal(second, want) {
		t.Errorf("another returned slice is %v", second)
	}
	// A trace made from the changes of another one is a trace of its own.
	copied := trace(t, x.Changes()[:2]...)
	if copied.Format() != "5 20\n9 -3\n" {
		t.Errorf("the first two changes: %q", copied.Format())
	}
	extended := trace(t, append(x.Changes(), Change{20, 1})...)
	if extended.Format() != "5 20\n9 -3\n12 4\n20 1\n" {
		t.Errorf("one more change: %q", extended.Format())
	}
	check("other traces are made")
}

// P10.1: Merge changes neither the traces nor their list, and each of its results is new memory.
func TestMergeMemory(t *testing.T) {
	a, b := trace(t, Change{5, 20}), trace(t, Change{6, -3})
	l := []*Trace{a, b}
	first := Merge(l, 6)
	second := Merge(l, 6)
	first[0], first[1] = 99, 99
	_ = append(first[:1], 98)
	if !slices.Equal(second, []int16{20, -3}) || !slices.Equal(Merge(l, 6), second) {
		t.Errorf("after a change of a result: %v, %v", second, Merge(l, 6))
	}
	if l[0] != a || l[1] != b || a.Format() != "5 20\n" || b.Format() != "6 -3\n" {
		t.Errorf("the traces are %q and %q", l[0].Format(), l[1].Format())
	}
}
