package interval

import (
	"fmt"
	"math"
	"math/big"
	"regexp"
	"slices"
	"strings"
	"testing"

	"trickle/api"
)

const last = api.MaxTime

// numbers are integers in ascending order: those next to 0 and to MaxTime, others of every size on both sides
// of the two, and those whose sums and differences do not fit into 64 bits.
var numbers = []int64{
	math.MinInt64, math.MinInt64 + 1, math.MinInt64 + 7, math.MinInt64 + last, math.MinInt64 / 2, -2*last - 1, -2 * last, -last - 1, -last, -last + 1,
	-1 << 32, -1 << 31, -1000, -3, -2, -1, 0, 1, 2, 3, 9, 10, 99, 100, 1000, 1 << 31, 1 << 32, last/2 - 1, last / 2, last/2 + 1, last - 3, last - 2, last - 1, last,
	last + 1, last + 2, last + 3, 2*last - 1, 2 * last, 2*last + 1, math.MaxInt64 / 2, math.MaxInt64/2 + 1, math.MaxInt64 - last, math.MaxInt64 - 7,
	math.MaxInt64 - 1, math.MaxInt64,
}

// of returns the interval with two bounds.
func of(lo, hi int64) api.Interval { return api.Interval{Lo: lo, Hi: hi} }

// divided returns the intervals of all pairs of numbers, those that are valid and the others. The places of
// the bounds in the list, which is sorted, tell which is which.
func divided() (valid, invalid []api.Interval) {
	zero, most := slices.Index(numbers, 0), slices.Index(numbers, last)
	for i, lo := range numbers {
		for j, hi := range numbers {
			if zero <= i && i <= j && j <= most {
				valid = append(valid, of(lo, hi))
			} else {
				invalid = append(invalid, of(lo, hi))
			}
		}
	}
	return valid, invalid
}

// short returns all intervals within some stretches of time: the first times, those in the middle, of which
// two have a sum close to MaxTime, and the last ones.
func short() []api.Interval {
	var list []api.Interval
	for _, start := range []int64{0, last/2 - 2, last - 4} {
		for lo := start; lo <= start+4; lo++ {
			for hi := lo; hi <= start+4; hi++ {
				list = append(list, of(lo, hi))
			}
		}
	}
	return list
}

// times returns all times of a short interval.
func times(x api.Interval) []int64 {
	var list []int64
	for t := x.Lo; t <= x.Hi; t++ {
		list = append(list, t)
	}
	return list
}

// some returns some times of an interval: its bounds, those next to them, and the numbers between them.
func some(x api.Interval) []int64 {
	var list []int64
	for _, t := range append([]int64{x.Lo, x.Lo + 1, x.Lo + (x.Hi-x.Lo)/2, x.Hi - 1, x.Hi}, numbers...) {
		if x.Lo <= t && t <= x.Hi {
			list = append(list, t)
		}
	}
	return list
}

// nearest returns the time that is nearest to t.
func nearest(t int64) int64 {
	if t < 0 {
		return 0
	}
	if t > last {
		return last
	}
	return t
}

// eachShortPair calls f with all pairs of short intervals and with their times.
func eachShortPair(f func(a, b api.Interval, ts, us []int64)) {
	for _, a := range short() {
		for _, b := range short() {
			f(a, b, times(a), times(b))
		}
	}
}

// operation is a function of two intervals.
type operation = func(a, b api.Interval) (api.Interval, api.Errno)

// row is a call of an operation with its result.
type row struct {
	a, b, want api.Interval
	e          api.Errno
}

// checkRows tests the calls of an operation.
func checkRows(t *testing.T, name string, f operation, rows []row) {
	t.Helper()
	for _, x := range rows {
		if got, e := f(x.a, x.b); got != x.want || e != x.e {
			t.Errorf("%s(%v, %v) = %v, %d, want %v, %d", name, x.a, x.b, got, e, x.want, x.e)
		}
	}
}

// P5.1, P5.2: the chapter's examples, and intervals at the ends of time.
func TestAddAndSubExamples(t *testing.T) {
	checkRows(t, "Add", Add, []row{
		{of(3, 5), of(10, 10), of(13, 15), api.OK},
		{of(10, 10), of(3, 5), of(13, 15), api.OK},
		{of(3, 5), of(10, 20), of(13, 25), api.OK},
		{of(0, 0), of(0, 0), of(0, 0), api.OK},
		{of(0, last), of(0, 0), of(0, last), api.OK},
		{of(0, last), of(0, last), of(0, last), api.OK},
		{of(0, last), of(1, 1), of(1, last), api.OK},
		{of(last, last), of(last, last), of(last, last), api.OK},
		{of(last-1, last-1), of(1, 1), of(last, last), api.OK},
		{of(last-2, last-1), of(1, 1), of(last-1, last), api.OK},
		{of(last-2, last-1), of(1, 2), of(last-1, last), api.OK},
		{of(last-1, last-1), of(2, 5), of(last, last), api.OK},
		{of(last/2, last/2), of(last/2-1, last/2+1), of(last-1, last), api.OK},
	})
	checkRows(t, "Sub", Sub, []row{
		{of(20, 25), of(10, 12), of(8, 15), api.OK},
		{of(5, 9), of(7, 7), of(0, 2), api.OK},
		{of(5, 9), of(9, 9), of(0, 0), api.OK},
		{of(5, 9), of(10, 20), of(0, 0), api.OK},
		{of(5, 9), of(5, 9), of(0, 4), api.OK},
		{of(5, 9), of(4, 5), of(0, 5), api.OK},
		{of(5, 9), of(3, 4), of(1, 6), api.OK},
		{of(0, 0), of(last, last), of(0, 0), api.OK},
		{of(0, last), of(0, last), of(0, last), api.OK},
		{of(last, last), of(0, 0), of(last, last), api.OK},
		{of(last, last), of(0, last), of(0, last), api.OK},
		{of(last, last), of(1, last-1), of(1, last-1), api.OK},
		{of(last-1, last), of(0, 1), of(last-2, last), api.OK},
	})
}

// P5.1: an interval is valid if its bounds are in order and both are times.
func TestValid(t *testing.T) {
	if !slices.IsSorted(numbers) {
		t.Fatal("the numbers are not sorted")
	}
	valid, invalid := divided()
	for _, x := range valid {
		if !Valid(x) {
			t.Errorf("Valid(%v) is false", x)
		}
	}
	for _, x := range invalid {
		if Valid(x) {
			t.Errorf("Valid(%v) is true", x)
		}
	}
	if !Valid(api.Interval{}) {
		t.Error("the interval of time 0 is not valid")
	}
}

// P5.1: At returns the interval of one time, which it clamps before.
func TestAt(t *testing.T) {
	for _, n := range numbers {
		if x := At(n); x != of(nearest(n), nearest(n)) || !Valid(x) {
			t.Errorf("At(%d) = %v", n, x)
		}
	}
	for n := int64(-5); n < 5; n++ {
		if x := At(n); x != of(max(n, 0), max(n, 0)) {
			t.Errorf("At(%d) = %v", n, x)
		}
		if x := At(last + n); x != of(min(last+n, last), min(last+n, last)) {
			t.Errorf("At(MaxTime%+d) = %v", n, x)
		}
	}
}

// P5.1: the bounds of a sum are the least and the greatest clamped sum of two times.
func TestAdd(t *testing.T) {
	eachShortPair(func(a, b api.Interval, ts, us []int64) {
		lo, hi := int64(math.MaxInt64), int64(math.MinInt64)
		for _, x := range ts {
			for _, y := range us {
				lo, hi = min(lo, nearest(x+y)), max(hi, nearest(x+y))
			}
		}
		if got, e := Add(a, b); got != of(lo, hi) || e != api.OK {
			t.Fatalf("Add(%v, %v) = %v, %d, want %v", a, b, got, e, of(lo, hi))
		}
	})
	valid, _ := divided()
	for _, a := range valid {
		for _, b := range valid {
			want := of(nearest(a.Lo+b.Lo), nearest(a.Hi+b.Hi))
			if got, e := Add(a, b); got != want || e != api.OK || !Valid(got) {
				t.Fatalf("Add(%v, %v) = %v, %d, want %v", a, b, got, e, want)
			}
		}
	}
}

// P5.2: the bounds of a difference are the least and the greatest difference of two times, or 0 instead of a
// negative one.
func TestSub(t *testing.T) {
	eachShortPair(func(a, b api.Interval, ts, us []int64) {
		lo, hi := int64(math.MaxInt64), int64(math.MinInt64)
		for _, x := range ts {
			for _, y := range us {
				lo, hi = min(lo, x-y), max(hi, x-y)
			}
		}
		want := of(nearest(lo), nearest(hi))
		if got, e := Sub(a, b); got != want || e != api.OK {
			t.Fatalf("Sub(%v, %v) = %v, %d, want %v", a, b, got, e, want)
		}
	})
	valid, _ := divided()
	for _, a := range valid {
		for _, b := range valid {
			want := of(nearest(a.Lo-b.Hi), nearest(a.Hi-b.Lo))
			if got, e := Sub(a, b); got != want || e != api.OK || !Valid(got) {
				t.Fatalf("Sub(%v, %v) = %v, %d, want %v", a, b, got, e, want)
			}
		}
	}
}

// P5.3: intervals that are apart, next to each other, touch, overlap, lie in each other or are equal.
func TestHullAndMeetExamples(t *testing.T) {
	for _, x := range []struct {
		a, b, hull, meet api.Interval
		e                api.Errno
	}{
		{of(1, 3), of(7, 9), of(1, 9), api.Interval{}, api.ErrEmpty},
		{of(1, 3), of(4, 9), of(1, 9), api.Interval{}, api.ErrEmpty},
		{of(1, 3), of(3, 9), of(1, 9), of(3, 3), api.OK},
		{of(1, 5), of(3, 9), of(1, 9), of(3, 5), api.OK},
		{of(1, 9), of(3, 5), of(1, 9), of(3, 5), api.OK},
		{of(1, 9), of(1, 5), of(1, 9), of(1, 5), api.OK},
		{of(1, 9), of(5, 9), of(1, 9), of(5, 9), api.OK},
		{of(1, 9), of(1, 9), of(1, 9), of(1, 9), api.OK},
		{of(4, 4), of(4, 4), of(4, 4), of(4, 4), api.OK},
		{of(4, 4), of(5, 5), of(4, 5), api.Interval{}, api.ErrEmpty},
		{of(0, 0), of(last, last), of(0, last), api.Interval{}, api.ErrEmpty},
		{of(0, last-1), of(last, last), of(0, last), api.Interval{}, api.ErrEmpty},
		{of(0, 0), of(1, last), of(0, last), api.Interval{}, api.ErrEmpty},
		{of(0, last), of(last, last), of(0, last), of(last, last), api.OK},
		{of(0, last), of(0, 0), of(0, last), of(0, 0), api.OK},
		{of(0, last), of(0, last), of(0, last), of(0, last), api.OK},
	} {
		checkRows(t, "Hull", Hull, []row{{x.a, x.b, x.hull, api.OK}, {x.b, x.a, x.hull, api.OK}})
		checkRows(t, "Meet", Meet, []row{{x.a, x.b, x.meet, x.e}, {x.b, x.a, x.meet, x.e}})
	}
}

// checkHull tests the hull of two intervals: the smallest one that contains all bounds.
func checkHull(t *testing.T, a, b api.Interval) {
	t.Helper()
	bounds := []int64{a.Lo, a.Hi, b.Lo, b.Hi}
	want := of(slices.Min(bounds), slices.Max(bounds))
	if got, e := Hull(a, b); got != want || e != api.OK {
		t.Fatalf("Hull(%v, %v) = %v, %d, want %v", a, b, got, e, want)
	}
}

// P5.3: the hull of every pair.
func TestHull(t *testing.T) {
	eachShortPair(func(a, b api.Interval, _, _ []int64) { checkHull(t, a, b) })
	valid, _ := divided()
	for _, a := range valid {
		for _, b := range valid {
			checkHull(t, a, b)
		}
	}
}

// P5.3: the common times of short intervals, one by one.
func TestMeet(t *testing.T) {
	eachShortPair(func(a, b api.Interval, ts, us []int64) {
		var common []int64
		for _, x := range ts {
			if slices.Contains(us, x) {
				common = append(common, x)
			}
		}
		want, wantError := api.Interval{}, api.ErrEmpty
		if len(common) > 0 {
			want, wantError = of(common[0], common[len(common)-1]), api.OK
		}
		if got, e := Meet(a, b); got != want || e != wantError {
			t.Fatalf("Meet(%v, %v) = %v, %d, want %v, %d", a, b, got, e, want, wantError)
		}
	})
}

// P5.3: the common times of longer intervals: a common part begins and ends with a bound of either.
func TestMeetLong(t *testing.T) {
	valid, _ := divided()
	for _, a := range valid {
		for _, b := range valid {
			var common []int64
			for _, n := range []int64{a.Lo, a.Hi, b.Lo, b.Hi} {
				if a.Lo <= n && n <= a.Hi && b.Lo <= n && n <= b.Hi {
					common = append(common, n)
				}
			}
			want, wantError := api.Interval{}, api.ErrEmpty
			if len(common) > 0 {
				want, wantError = of(slices.Min(common), slices.Max(common)), api.OK
			}
			if got, e := Meet(a, b); got != want || e != wantError {
				t.Fatalf("Meet(%v, %v) = %v, %d, want %v, %d", a, b, got, e, want, wantError)
			}
		}
	}
}

// P5.1, P5.2, P5.3: an interval that is not valid is an error in every place, with no interval as the result,
// also where there would be no common time.
func TestInvalidArguments(t *testing.T) {
	valid, invalid := divided()
	check := func(a, b api.Interval) {
		t.Helper()
		for i, f := range []operation{Add, Sub, Hull, Meet} {
			if got, e := f(a, b); got != (api.Interval{}) || e != api.ErrInvalid {
				t.Fatalf("operation %d of %v and %v = %v, %d", i, a, b, got, e)
			}
		}
	}
	for _, x := range invalid {
		for _, y := range valid {
			check(x, y)
			check(y, x)
		}
		for _, y := range invalid {
			check(x, y)
		}
	}
	for _, x := range []api.Interval{of(5, 4), of(-1, 5), of(5, last+1), of(last+1, last+1), of(-1, -1), of(last, 0), of(math.MinInt64, math.MaxInt64)} {
		check(x, x)
		check(x, of(0, 0))
		check(of(last, last), x)
	}
}

// P5.4: the order of intervals that are apart, next to each other, touch, overlap or are equal.
func TestOrderExamples(t *testing.T) {
	for _, x := range []struct {
		a, b        api.Interval
		before, may bool
	}{
		{of(1, 3), of(7, 9), true, true},
		{of(1, 3), of(4, 9), true, true},
		{of(1, 3), of(3, 9), false, true},
		{of(1, 5), of(3, 9), false, true},
		{of(1, 9), of(3, 5), false, true},
		{of(3, 5), of(1, 9), false, true},
		{of(3, 9), of(1, 5), false, true},
		{of(3, 9), of(1, 3), false, false},
		{of(4, 9), of(1, 3), false, false},
		{of(7, 9), of(1, 3), false, false},
		{of(1, 9), of(1, 9), false, true},
		{of(4, 4), of(4, 4), false, false},
		{of(4, 4), of(5, 5), true, true},
		{of(5, 5), of(4, 4), false, false},
		{of(4, 4), of(4, 5), false, true},
		{of(4, 5), of(4, 4), false, false},
		{of(0, 0), of(last, last), true, true},
		{of(last, last), of(0, 0), false, false},
		{of(0, last), of(0, last), false, true},
		{of(0, last-1), of(last, last), true, true},
		{of(0, last), of(last, last), false, true},
		{of(0, 0), of(0, last), false, true},
		{of(last, last), of(0, last), false, false},
	} {
		if before, may := Before(x.a, x.b), MayBefore(x.a, x.b); before != x.before || may != x.may {
			t.Errorf("%v and %v: Before %v, MayBefore %v", x.a, x.b, before, may)
		}
	}
}

// P5.4, P5.6: Before means that every time of a is less than every time of b, MayBefore that some time is.
func TestOrder(t *testing.T) {
	eachShortPair(func(a, b api.Interval, ts, us []int64) {
		all, one := true, false
		for _, x := range ts {
			for _, y := range us {
				all, one = all && x < y, one || x < y
			}
		}
		if Before(a, b) != all || MayBefore(a, b) != one {
			t.Fatalf("%v and %v: Before %v, MayBefore %v", a, b, Before(a, b), MayBefore(a, b))
		}
	})
	valid, _ := divided()
	for _, a := range valid {
		for _, b := range valid {
			if Before(a, b) != (a.Hi < b.Lo) || MayBefore(a, b) != (a.Lo < b.Hi) {
				t.Fatalf("%v and %v: Before %v, MayBefore %v", a, b, Before(a, b), MayBefore(a, b))
			}
		}
	}
}

// P5.4: an interval that is not valid is neither before nor after another one.
func TestOrderInvalid(t *testing.T) {
	valid, invalid := divided()
	others := append(valid, invalid...)
	for _, x := range invalid {
		for _, y := range others {
			if Before(x, y) || Before(y, x) || MayBefore(x, y) || MayBefore(y, x) {
				t.Fatalf("%v is ordered with %v", x, y)
			}
		}
	}
	for _, x := range [][2]api.Interval{{of(-5, -4), of(1, 2)}, {of(1, 2), of(last+1, last+2)}, {of(2, 1), of(3, 4)}, {of(3, 4), of(6, 5)}, {of(-1, 0), of(1, 2)}} {
		if Before(x[0], x[1]) || MayBefore(x[0], x[1]) {
			t.Errorf("%v is before %v", x[0], x[1])
		}
	}
}

// P5.4: an interval has the times between its bounds and no other integers, and an invalid one has none.
func TestHas(t *testing.T) {
	valid, invalid := divided()
	for _, x := range append(valid, short()...) {
		for _, n := range append([]int64{x.Lo - 1, x.Lo, x.Lo + 1, x.Hi - 1, x.Hi, x.Hi + 1}, numbers...) {
			if Has(x, n) != (x.Lo <= n && n <= x.Hi) {
				t.Fatalf("Has(%v, %d) is %v", x, n, Has(x, n))
			}
		}
	}
	for _, x := range invalid {
		for _, n := range append([]int64{x.Lo, x.Hi, x.Lo/2 + x.Hi/2}, numbers...) {
			if Has(x, n) {
				t.Fatalf("Has(%v, %d) is true", x, n)
			}
		}
	}
	if !Has(of(4, 4), 4) || Has(of(4, 4), 3) || Has(of(4, 4), 5) || Has(of(-1, 5), 3) || Has(of(3, last+1), 5) || Has(of(-1, -1), -1) {
		t.Error("Has of an interval near one time is wrong")
	}
}

// P5.4: the width of an interval, which is 0 if it is not valid.
func TestWidth(t *testing.T) {
	valid, invalid := divided()
	for _, x := range append(valid, short()...) {
		if w := Width(x); w != x.Hi-x.Lo {
			t.Errorf("Width(%v) = %d", x, w)
		}
	}
	for _, x := range invalid {
		if w := Width(x); w != 0 {
			t.Errorf("Width(%v) = %d", x, w)
		}
	}
	if Width(of(3, 5)) != 2 || Width(of(4, 4)) != 0 || Width(of(0, last)) != last || Width(of(5, 3)) != 0 || Width(of(-1, 5)) != 0 {
		t.Error("the width of an example is wrong")
	}
}

// P5.5: intervals and their texts.
func TestText(t *testing.T) {
	for _, x := range []struct {
		x    api.Interval
		text string
	}{
		{of(0, 0), "0"},
		{of(0, 1), "0..1"},
		{of(7, 7), "7"},
		{of(3, 5), "3..5"},
		{of(9, 10), "9..10"},
		{of(13, 15), "13..15"},
		{of(44, 56), "44..56"},
		{of(100, 1000), "100..1000"},
		{of(0, last), "0..1099511627776"},
		{of(last-1, last), "1099511627775..1099511627776"},
		{of(last, last), "1099511627776"},
		{of(2147483647, 2147483648), "2147483647..2147483648"},
		{of(4294967295, 4294967296), "4294967295..4294967296"},
	} {
		if s := Format(x.x); s != x.text {
			t.Errorf("Format(%v) = %q, want %q", x.x, s, x.text)
		}
		if y, e := Parse(x.text); y != x.x || e != api.OK {
			t.Errorf("Parse(%q) = %v, %d, want %v", x.text, y, e, x.x)
		}
	}
}

// P5.5: Format and Parse of every interval between two numbers.
func TestFormat(t *testing.T) {
	valid, invalid := divided()
	for _, x := range append(valid, short()...) {
		want := fmt.Sprintf("%d..%d", x.Lo, x.Hi)
		if x.Lo == x.Hi {
			want = fmt.Sprint(x.Lo)
		}
		s := Format(x)
		if s != want {
			t.Fatalf("Format(%v) = %q, want %q", x, s, want)
		}
		if y, e := Parse(s); y != x || e != api.OK {
			t.Fatalf("Parse(%q) = %v, %d", s, y, e)
		}
	}
	for _, x := range invalid {
		if s := Format(x); s != "" {
			t.Fatalf("Format(%v) = %q", x, s)
		}
		for _, s := range []string{fmt.Sprintf("%d..%d", x.Lo, x.Hi), fmt.Sprintf("%d", x.Lo), fmt.Sprintf("%d", x.Hi)} {
			checkParse(t, s)
		}
	}
}

// bounds matches one number or two, without signs and leading zeros.
var bounds = regexp.MustCompile(`\A(0|[1-9][0-9]*)(?:\.\.(0|[1-9][0-9]*))?\z`)

// meaning returns the interval with a text, if there is one: exact numbers tell those apart that are too
// great for a time.
func meaning(s string) (api.Interval, bool) {
	parts := bounds.FindStringSubmatch(s)
	if parts == nil {
		return api.Interval{}, false
	}
	single := parts[2] == ""
	if single {
		parts[2] = parts[1]
	}
	lo, _ := new(big.Int).SetString(parts[1], 10)
	hi, _ := new(big.Int).SetString(parts[2], 10)
	if hi.Cmp(big.NewInt(last)) > 0 || lo.Cmp(hi) > 0 || !single && lo.Cmp(hi) == 0 {
		return api.Interval{}, false
	}
	return of(lo.Int64(), hi.Int64()), true
}

// checkParse tests that Parse returns the meaning of any string, or an error if it has none.
func checkParse(t *testing.T, s string) {
	t.Helper()
	want, ok := meaning(s)
	wantError := api.OK
	if !ok {
		wantError = api.ErrSyntax
	}
	if x, e := Parse(s); x != want || e != wantError {
		t.Fatalf("Parse(%q) = %v, %d, want %v, %d", s, x, e, want, wantError)
	}
}

// P5.5: every other text is an error.
func TestParseInvalid(t *testing.T) {
	for _, s := range []string{
		"", " ", "0 ", " 0", "\t5", "5\n", "5\x00", "\x005", "3 ..5", "3.. 5", "3. .5", " 3..5", "3..5 ", "3..5\n", "3\n..5",
		".", "..", "...", "....", "3.", "3..", "3...", ".5", "..5", "...5", "3.5", "3...5", "3....5", "3..5.", "3..5..", "3..5..7", "3..5..5", "3..3..5", ".3..5", "..3..5",
		"5..5", "0..0", "7..7", "1099511627776..1099511627776", "5..3", "1..0", "10..9", "1099511627776..0",
		"-1", "-0", "-0..5", "-1..5", "-5..-1", "-5..-5", "-1..-1", "3..-5", "3..-0", "-", "-..5", "3..-", "--5", "3-5",
		"+5", "+0", "+3..5", "3..+5", "+3..+5", "+", "3..+", "00", "01", "007", "03..5", "3..05", "00..5", "0..00", "0..05", "000..0001", "3..5..",
		"1099511627777", "0..1099511627777", "1099511627776..1099511627777", "1099511627777..1099511627778", "1099511627777..5", "9999999999999", "10995116277760",
		"9223372036854775807", "9223372036854775808", "9223372036854775813", "18446744073709551615", "18446744073709551616", "18446744073709551621", "0..18446744073709551621",
		"3..9223372036854775808", "9223372036854775808..5", "9223372036854775807..9223372036854775808", "18446744073709551619..18446744073709551621", "-9223372036854775808",
		"-9223372036854775809", "-9223372036854775808..9223372036854775807", "340282366920938463463374607431768211461", "3..340282366920938463463374607431768211461",
		"a", "3..a", "a..5", "3a..5", "3..5a", "1e3", "0x5", "0b1", "0o7", "3..0x5", "1_0", "1_0..2_0", "1,000", "1.0", "3,5", "3:5", "3-5", "3…5", "3.,5", "(3..5)", "[3..5]", "3..5;",
		"\u0665", "3..\u0665", "\uff15", "\u22125", "\xff", "3..\xff5", "3..5\xff", "\u00a05", "3\u20255", "nil", "inf", "NaN",
		strings.Repeat("0", 1000) + "5", strings.Repeat("9", 1000), "3.." + strings.Repeat("9", 1000), strings.Repeat(".", 1000), strings.Repeat("3..", 1000) + "5", "3..5" + strings.Repeat(" ", 1000),
	} {
		if x, e := Parse(s); x != (api.Interval{}) || e != api.ErrSyntax {
			t.Errorf("Parse(%q) = %v, %d", s, x, e)
		}
	}
}

// P5.5: every short string of characters that occur in texts or look like it.
func TestParseShort(t *testing.T) {
	list := []string{""}
	for range 6 {
		var longer []string
		for _, s := range list {
			checkParse(t, s)
			for _, c := range "0159.-+ " {
				longer = append(longer, s+string(c))
			}
		}
		list = longer
	}
	for _, s := range list {
		checkParse(t, s)
	}
}

// P5.5: texts with one byte inserted, replaced or left out.
func TestParseNeighbours(t *testing.T) {
	for _, s := range []string{"0", "5", "19", "0..1", "3..5", "9..10", "88..100", "1099511627776", "0..1099511627776", "1099511627775..1099511627776"} {
		for i := range len(s) + 1 {
			for c := range 256 {
				checkParse(t, s[:i]+string([]byte{byte(c)})+s[i:])
				if i < len(s) {
					checkParse(t, s[:i]+string([]byte{byte(c)})+s[i+1:])
				}
			}
			if i < len(s) {
				checkParse(t, s[:i]+s[i+1:])
			}
		}
	}
}

// P5.5: the texts with numbers close to MaxTime, in every order.
func TestParseLastTimes(t *testing.T) {
	for lo := last - 5; lo < last+5; lo++ {
		checkParse(t, fmt.Sprint(lo))
		for hi := last - 5; hi < last+5; hi++ {
			checkParse(t, fmt.Sprintf("%d..%d", lo, hi))
		}
	}
}

// checkTimes tests the consequences for a time of a and one of b.
func checkTimes(t *testing.T, a, b, sum, difference api.Interval, x, y int64) {
	t.Helper()
	if !Has(a, x) || !Has(b, y) {
		t.Fatalf("%v or %v does not have its time %d or %d", a, b, x, y)
	}
	if total := At(x + y); !Has(sum, total.Lo) {
		t.Fatalf("Add(%v, %v) = %v does not have %d + %d", a, b, sum, x, y)
	}
	if x >= y && !Has(difference, x-y) {
		t.Fatalf("Sub(%v, %v) = %v does not have %d - %d", a, b, difference, x, y)
	}
	if Before(a, b) && x >= y || !MayBefore(a, b) && x < y {
		t.Fatalf("%v and %v: Before %v, MayBefore %v with %d and %d", a, b, Before(a, b), MayBefore(a, b), x, y)
	}
}

// P5.6: every pair of times of short intervals, and some pairs of times of longer ones.
func TestConsequences(t *testing.T) {
	check := func(a, b api.Interval, ts, us []int64) {
		sum, addError := Add(a, b)
		difference, subError := Sub(a, b)
		if addError != api.OK || subError != api.OK {
			t.Fatalf("%v and %v: errors %d and %d", a, b, addError, subError)
		}
		for _, x := range ts {
			for _, y := range us {
				checkTimes(t, a, b, sum, difference, x, y)
			}
		}
	}
	eachShortPair(check)
	valid, _ := divided()
	for _, a := range valid {
		for _, b := range valid {
			check(a, b, some(a), some(b))
		}
	}
}

// P5.6: Add and Sub undo each other as far as intervals can: what was added and taken away is there still.
func TestAddThenSub(t *testing.T) {
	eachShortPair(func(a, b api.Interval, ts, _ []int64) {
		sum, _ := Add(a, b)
		back, e := Sub(sum, b)
		if e != api.OK {
			t.Fatalf("Sub(%v, %v) gives %d", sum, b, e)
		}
		for _, x := range ts {
			if x+b.Hi <= last && !Has(back, x) {
				t.Fatalf("%v and %v added and taken away is %v", a, b, back)
			}
		}
	})
}
