package bitset

import (
	"fmt"
	"math"
	"slices"
	"strings"
	"testing"
)

// strangers are integers that are no elements: those next to the least and the greatest element, others of
// every size, and those that would become an element if they lost their sign or their upper bits.
var strangers = []int{
	-1, -2, -5, -63, -64, -65, -128, -65531, -65535, -65536, -65537, 65536, 65537, 65541, 65599, 65600, 131071, 131072,
	1 << 31, 1<<31 + 5, 1 << 32, 1<<32 + 5, -1 << 31, -1<<31 + 5, -1 << 32, -1<<32 + 5, 1<<62 + 5, -1<<62 + 5,
	math.MaxInt32, math.MinInt32, math.MaxInt, math.MaxInt - 1, math.MinInt, math.MinInt + 1, math.MinInt + 5,
}

// between returns the integers from lo to hi-1.
func between(lo, hi int) []int {
	var list []int
	for n := lo; n < hi; n++ {
		list = append(list, n)
	}
	return list
}

// mixed returns so many elements below a bound, in no order and not all different.
func mixed(count, bound int) []int {
	list := make([]int, count)
	state := uint32(count + bound)
	for i := range list {
		state = state*1103515245 + 12345
		list[i] = int(state>>8) % bound
	}
	return list
}

// samples returns the elements of sets of every size and shape, some of them next to the ends of words of
// 8, 16, 32 and 64 bits, in orders other than the ascending one and more than once.
func samples() [][]int {
	return [][]int{
		nil, {0}, {1}, {63}, {64}, {65535}, {65534}, {65535, 0}, {5, 1, 3, 1}, {3, 5, 1, 5, 5, 3}, {1, 3}, {64, 0, 127, 63, 128},
		{7, 8, 15, 16, 31, 32, 33}, {255, 256, 257, 511, 512}, {32767, 32768, 65472, 65471}, {2, 2, 2, 2},
		between(0, 8), between(0, 63), between(0, 64), between(0, 65), between(1, 64), between(63, 130), between(64, 128),
		between(300, 1000), between(65400, 65536), between(0, 65536),
		mixed(20, 64), mixed(50, 128), mixed(40, 1000), mixed(300, 1000), mixed(200, 65536), mixed(9000, 65536),
	}
}

// sorted returns the elements among some integers as a set has them: each once, in ascending order.
func sorted(l ...int) []int {
	var list []int
	for _, n := range l {
		if 0 <= n && n <= 65535 {
			list = append(list, n)
		}
	}
	slices.Sort(list)
	return slices.Compact(list)
}

// contains reports whether a sorted list has an element.
func contains(list []int, n int) bool {
	_, found := slices.BinarySearch(list, n)
	return found
}

// filter returns the elements of a sorted list that are in another one, or those that are not.
func filter(list, other []int, in bool) []int {
	var kept []int
	for _, n := range list {
		if contains(other, n) == in {
			kept = append(kept, n)
		}
	}
	return kept
}

// text is the string of a set with the elements of a sorted list.
func text(list []int) string {
	return "{" + strings.Trim(fmt.Sprint(list), "[]") + "}"
}

// brief shortens what is printed of large sets.
func brief(list []int) string {
	if len(list) > 20 {
		return fmt.Sprintf("%d elements %v..", len(list), list[:20])
	}
	return fmt.Sprint(list)
}

// check tests that a set has the elements of a sorted list, by every function that looks at a set.
func check(t *testing.T, s Set, want []int, what string, of ...any) {
	t.Helper()
	what = fmt.Sprintf(what, of...)
	if got := slices.Collect(s.All()); !slices.Equal(got, want) {
		t.Fatalf("%s: All gives %s, want %s", what, brief(got), brief(want))
	}
	if s.Len() != len(want) {
		t.Fatalf("%s: the length is %d, want %d", what, s.Len(), len(want))
	}
	if got := s.String(); got != text(want) {
		t.Fatalf("%s: the string is %.100q, want %.100q", what, got, text(want))
	}
	for i, n := range append([]int{0, 65535}, want...) {
		near := []int{n, n + 1, n - 1, n + 64, n - 64, n + 65536, n - 65536}
		if i > 300 {
			near = near[:2]
		}
		for _, n := range near {
			if s.Has(n) != contains(want, n) {
				t.Fatalf("%s: Has(%d) is %v", what, n, s.Has(n))
			}
		}
	}
	made := Of(want...)
	if !s.Equal(made) || !made.Equal(s) || !s.Subset(made) || !made.Subset(s) {
		t.Fatalf("%s: the set does not equal that of its elements %s", what, brief(want))
	}
}

// P4.1: the chapter's examples.
func TestExamples(t *testing.T) {
	if s := Of(5, 1, 3, 1); s.Len() != 3 || s.String() != "{1 3 5}" {
		t.Errorf("Of(5, 1, 3, 1) has length %d and the string %q", s.Len(), s.String())
	}
	if s := Range(2, 5); s.String() != "{2 3 4}" {
		t.Errorf("Range(2, 5) is %q", s.String())
	}
	if s := Of(); s.String() != "{}" {
		t.Errorf("Of() is %q", s.String())
	}
}

// P4.1: the zero value is the empty set, and so is every set that lost its elements or never had any.
func TestEmpty(t *testing.T) {
	var zero Set
	all := Range(0, 65536)
	for i, s := range []Set{
		zero, {}, Of(), Of(nil...), Of([]int{}...), Of(-1), Of(strangers...), Range(0, 0), Range(7, 7), Range(9, 3), zero.With(-1), zero.Without(0),
		Of(65535).Without(65535), Of(0).Without(0), Of(64).Minus(Of(64)), all.Minus(all), Of(1, 100).Intersect(Of(2, 200)), zero.Union(zero),
		zero.Intersect(all), all.Intersect(zero), zero.Minus(all),
	} {
		check(t, s, nil, "empty set %d", i)
		if !s.Equal(zero) || !zero.Equal(s) || !s.Subset(zero) || !zero.Subset(s) || !s.Subset(all) || all.Subset(s) || s.Equal(all) || all.Equal(s) {
			t.Errorf("empty set %d compares wrongly", i)
		}
		check(t, s.With(70), []int{70}, "empty set %d with an element", i)
		check(t, s.Union(Of(3)), []int{3}, "empty set %d in a union", i)
	}
}

// P4.1: Of has the given elements, in any order and however often they are given, and no other integers.
func TestOf(t *testing.T) {
	for i, l := range samples() {
		want := sorted(l...)
		check(t, Of(l...), want, "sample %d", i)
		backwards := slices.Clone(l)
		slices.Reverse(backwards)
		check(t, Of(backwards...), want, "sample %d, backwards", i)
		check(t, Of(append(backwards, l...)...), want, "sample %d, twice", i)
		check(t, Of(append(slices.Clone(strangers), l...)...), want, "sample %d, after strangers", i)
		check(t, Of(append(slices.Clone(l), strangers...)...), want, "sample %d, before strangers", i)
	}
	check(t, Of(-1, 0, 65535, 65536), []int{0, 65535}, "the ends")
	for _, n := range strangers {
		check(t, Of(n), nil, "Of(%d)", n)
		check(t, Of(n, 5, n), []int{5}, "Of(%d, 5, %d)", n, n)
	}
}

// P4.1: each integer alone, from below the least element to above the greatest.
func TestEveryElement(t *testing.T) {
	all := Range(0, 65536)
	for n := -70; n < 65536+70; n++ {
		element := 0 <= n && n <= 65535
		s := Of(n)
		if s.Has(n) != element || all.Has(n) != element || s.Has(n-1) || s.Has(n+1) || (s.Len() == 1) != element {
			t.Fatalf("element %d is wrong", n)
		}
		if !s.Equal(Range(n, n+1)) || !s.Subset(all) || s.Equal(Of(n+1)) && element {
			t.Fatalf("the set of %d compares wrongly", n)
		}
	}
}

// P4.1: Range with bounds in every order, outside the elements and at the ends of words.
func TestRange(t *testing.T) {
	bounds := append([]int{0, 1, 2, 5, 62, 63, 64, 65, 127, 128, 129, 1000, 65471, 65472, 65473, 65534, 65535}, strangers...)
	for _, lo := range bounds {
		for _, hi := range bounds {
			s := Range(lo, hi)
			least, end := max(lo, 0), min(hi, 65536)
			next := least
			for n := range s.All() {
				if n != next {
					t.Fatalf("Range(%d, %d) has %d where %d is next", lo, hi, n, next)
				}
				next++
			}
			if next != max(least, end) || s.Len() != next-least {
				t.Fatalf("Range(%d, %d) has %d elements", lo, hi, s.Len())
			}
			for _, n := range bounds {
				if s.Has(n) != (lo <= n && n < hi && 0 <= n && n <= 65535) {
					t.Fatalf("Range(%d, %d).Has(%d) is %v", lo, hi, n, s.Has(n))
				}
			}
		}
	}
	for lo := -3; lo < 200; lo++ {
		for hi := -3; hi < 200; hi++ {
			if s := Range(lo, hi); !slices.Equal(slices.Collect(s.All()), between(max(lo, 0), hi)) {
				t.Fatalf("Range(%d, %d) is %v", lo, hi, s)
			}
		}
	}
	check(t, Range(math.MinInt, math.MaxInt), between(0, 65536), "the greatest range")
	check(t, Range(60, 70), between(60, 70), "a range across the end of a word")
	check(t, Range(64, 128), between(64, 128), "a range of one word")
	check(t, Range(65535, 65536), []int{65535}, "the last element")
}

// P4.1: With and Without, of what is there, of what is not, and of integers that are no elements.
func TestWithAndWithout(t *testing.T) {
	for i, l := range samples() {
		s, want := Of(l...), sorted(l...)
		for _, n := range strangers {
			if with, without := s.With(n), s.Without(n); !with.Equal(s) || with.Len() != len(want) || !without.Equal(s) || without.Len() != len(want) {
				t.Fatalf("sample %d with or without %d is another set", i, n)
			}
		}
		for _, n := range []int{0, 1, 3, 31, 32, 62, 63, 64, 65, 128, 500, 32768, 65534, 65535} {
			check(t, s.With(n), sorted(append(slices.Clone(l), n)...), "sample %d with %d", i, n)
			check(t, s.Without(n), filter(want, []int{n}, false), "sample %d without %d", i, n)
			if again := s.With(n).With(n); !again.Equal(s.With(n)) {
				t.Fatalf("sample %d with %d twice is %v", i, n, again)
			}
			if again := s.Without(n).Without(n); !again.Equal(s.Without(n)) {
				t.Fatalf("sample %d without %d twice is %v", i, n, again)
			}
			if s.With(n).Equal(s) != contains(want, n) || s.Without(n).Equal(s) == contains(want, n) {
				t.Fatalf("sample %d with or without %d compares wrongly", i, n)
			}
		}
		check(t, s, want, "sample %d, afterwards", i)
	}
}

// P4.1: one element after the other is added, in two orders, and taken away again.
func TestBuiltUp(t *testing.T) {
	for i, l := range samples() {
		if len(l) > 300 {
			l = append(slices.Clone(l[:150]), l[len(l)-150:]...)
		}
		var up, down Set
		for k := range l {
			up = up.With(l[k])
			down = down.With(l[len(l)-1-k])
		}
		want := sorted(l...)
		check(t, up, want, "sample %d, forwards", i)
		check(t, down, want, "sample %d, backwards", i)
		if !up.Equal(down) || !up.Subset(down) {
			t.Fatalf("sample %d: sets that were made in different orders differ", i)
		}
		for k, n := range want {
			up = up.Without(n)
			down = down.Without(want[len(want)-1-k])
			if up.Len() != len(want)-1-k || up.Has(n) || down.Len() != len(want)-1-k || down.Has(want[len(want)-1-k]) {
				t.Fatalf("sample %d: after %d removals: %v and %v", i, k+1, up, down)
			}
		}
		check(t, up, nil, "sample %d, taken away", i)
		check(t, down, nil, "sample %d, taken away from the end", i)
	}
}

// P4.1: Union, Intersect, Minus, Equal and Subset of sets of all sizes. P4.2: neither set has changed.
func TestOperations(t *testing.T) {
	list := samples()
	for i, x := range list {
		for j, y := range list {
			s, u := Of(x...), Of(y...)
			a, b := sorted(x...), sorted(y...)
			check(t, s.Union(u), sorted(append(slices.Clone(x), y...)...), "the union of samples %d and %d", i, j)
			check(t, s.Intersect(u), filter(a, b, true), "the intersection of samples %d and %d", i, j)
			check(t, s.Minus(u), filter(a, b, false), "sample %d minus %d", i, j)
			if equal := slices.Equal(a, b); s.Equal(u) != equal {
				t.Fatalf("Equal of samples %d and %d is %v", i, j, !equal)
			}
			if subset := len(filter(a, b, false)) == 0; s.Subset(u) != subset {
				t.Fatalf("Subset of samples %d and %d is %v", i, j, !subset)
			}
			if !slices.Equal(slices.Collect(s.All()), a) || !slices.Equal(slices.Collect(u.All()), b) {
				t.Fatalf("the operations changed sample %d or %d", i, j)
			}
		}
	}
}

// places are the elements of the sets of the next tests: the least and the greatest element, and others in
// the same words and in different ones.
var places = []int{0, 1, 63, 64, 200, 4095, 65535}

// chosen returns the set of the places whose bits are set.
func chosen(mask int) Set {
	var l []int
	for i, n := range places {
		if mask>>i&1 == 1 {
			l = append(l, n)
		}
	}
	return Of(l...)
}

// mask is the inverse of chosen. It returns -1 if a set contains anything else.
func mask(s Set) int {
	m := 0
	for n := range s.All() {
		i := slices.Index(places, n)
		if i < 0 {
			return -1
		}
		m |= 1 << i
	}
	return m
}

// P4.1: every pair of sets of some elements.
func TestEveryPair(t *testing.T) {
	for a := range 1 << len(places) {
		s := chosen(a)
		for b := range 1 << len(places) {
			u := chosen(b)
			if mask(s.Union(u)) != a|b || mask(s.Intersect(u)) != a&b || mask(s.Minus(u)) != a&^b {
				t.Fatalf("%v and %v: union %v, intersection %v, difference %v", s, u, s.Union(u), s.Intersect(u), s.Minus(u))
			}
			if s.Equal(u) != (a == b) || s.Subset(u) != (a&^b == 0) {
				t.Fatalf("%v and %v: equal %v, subset %v", s, u, s.Equal(u), s.Subset(u))
			}
			if s.Minus(u).Equal(u) != (a&^b == b) || s.Intersect(u).Equal(s) != (a&b == a) || s.Union(u).Equal(u) != (a|b == b) {
				t.Fatalf("%v and %v: a result of them compares wrongly", s, u)
			}
		}
	}
}

// checkLaws tests the laws of set algebra for three sets.
func checkLaws(t *testing.T, a, b, c Set) {
	t.Helper()
	for i, x := range [][2]Set{
		{a.Minus(b.Union(c)), a.Minus(b).Intersect(a.Minus(c))},
		{a.Minus(b.Intersect(c)), a.Minus(b).Union(a.Minus(c))},
		{a.Union(b), b.Union(a)},
		{a.Intersect(b), b.Intersect(a)},
		{a.Union(b).Union(c), a.Union(b.Union(c))},
		{a.Intersect(b).Intersect(c), a.Intersect(b.Intersect(c))},
		{a.Intersect(b.Union(c)), a.Intersect(b).Union(a.Intersect(c))},
		{a.Union(b.Intersect(c)), a.Union(b).Intersect(a.Union(c))},
		{a.Union(a.Intersect(b)), a},
		{a.Intersect(a.Union(b)), a},
		{a.Minus(b).Union(a.Intersect(b)), a},
		{a.Minus(b).Intersect(b), Set{}},
		{a.Minus(a.Minus(b)), a.Intersect(b)},
		{a.Minus(b).Minus(c), a.Minus(c).Minus(b)},
		{a.Union(Set{}), a},
		{a.Intersect(Range(0, 65536)), a},
	} {
		if !x[0].Equal(x[1]) || x[0].Len() != x[1].Len() {
			t.Fatalf("law %d does not hold for %v, %v and %v: %v, %v", i, a, b, c, x[0], x[1])
		}
	}
	if a.Minus(b).Len()+a.Intersect(b).Len() != a.Len() || a.Union(b).Len()+a.Intersect(b).Len() != a.Len()+b.Len() {
		t.Fatalf("the lengths for %v and %v do not add up", a, b)
	}
	if a.Subset(b) != a.Minus(b).Equal(Set{}) || a.Subset(b) != (a.Minus(b).Len() == 0) || a.Equal(b) != (a.Subset(b) && b.Subset(a)) {
		t.Fatalf("Subset of %v and %v is %v", a, b, a.Subset(b))
	}
	if a.Subset(b) && b.Subset(c) && !a.Subset(c) || !a.Intersect(b).Subset(a) || !a.Subset(a.Union(b)) || !a.Minus(b).Subset(a) {
		t.Fatalf("Subset of %v, %v and %v is wrong", a, b, c)
	}
}

// P4.2: the laws of set algebra, for all sets of four elements and for samples of all sizes.
func TestLaws(t *testing.T) {
	for a := range 16 {
		for b := range 16 {
			for c := range 16 {
				checkLaws(t, chosen(a<<2), chosen(b<<2), chosen(c<<2))
			}
		}
	}
	var sets []Set
	for _, l := range samples() {
		if len(l) < 1000 {
			sets = append(sets, Of(l...))
		}
	}
	sets = append(sets, Range(0, 65536), Range(1, 60000), Range(64, 640))
	for i, a := range sets {
		for j, b := range sets {
			checkLaws(t, a, b, sets[(i+3*j)%len(sets)])
		}
	}
}

// P4.1: a set that is made in different ways is the same set.
func TestDifferentWays(t *testing.T) {
	all := Range(0, 65536)
	want := between(10, 75)
	ways := []Set{
		Of(want...), Range(10, 75), Range(0, 75).Minus(Range(0, 10)), Range(10, 65536).Minus(Range(75, 65536)), Range(10, 40).Union(Range(30, 75)),
		Range(10, 65536).Intersect(Range(0, 75)), Range(10, 75).With(65535).Without(65535), Range(10, 74).With(74), Range(9, 75).Without(9),
		all.Minus(all.Minus(Range(10, 75))), Range(10, 1000).Intersect(Range(10, 75)), Of(append(between(-9, 75), 65536)...).Minus(Range(-5, 10)),
		Range(10, 75).Union(Set{}), Range(10, 75).Minus(Of(65535)), Range(10, 75).Union(Range(20, 30)), Range(10, 75).Union(Of(65535)).Intersect(Range(0, 200)),
	}
	for i, s := range ways {
		check(t, s, want, "way %d", i)
		for j, u := range ways {
			if !s.Equal(u) || !s.Subset(u) || s.Minus(u).Len() != 0 || s.Without(74).Equal(u) || u.Subset(s.Without(10)) || s.With(75).Equal(u) {
				t.Errorf("ways %d and %d differ", i, j)
			}
		}
	}
}

// first returns the elements that a loop sees that stops after so many.
func first(s Set, count int) []int {
	var list []int
	if count == 0 {
		return list
	}
	for n := range s.All() {
		list = append(list, n)
		if len(list) == count {
			break
		}
	}
	return list
}

// P4.1: an iteration that is stopped at every place, and the iterations after it.
func TestAllStopped(t *testing.T) {
	for i, l := range samples() {
		s, want := Of(l...), sorted(l...)
		for count := range min(len(want), 300) + 1 {
			if got := first(s, count); !slices.Equal(got, want[:count]) {
				t.Fatalf("sample %d: the first %d elements are %v", i, count, got)
			}
		}
		check(t, s, want, "sample %d, after stopped iterations", i)
	}
}

// P4.1: after the body returned false, the iterator does not call it again.
func TestAllStops(t *testing.T) {
	s := Of(3, 63, 64, 65, 640, 65535)
	for stop := 1; stop <= 6; stop++ {
		calls := 0
		s.All()(func(n int) bool {
			calls++
			return calls < stop
		})
		if calls != stop {
			t.Errorf("stopped at call %d, the body was called %d times", stop, calls)
		}
	}
}

// P4.1: one iterator is used more than once: after a whole loop, after a stopped one, and within itself.
func TestAllRepeated(t *testing.T) {
	s := Of(65535, 0, 63, 64, 9)
	want := []int{0, 9, 63, 64, 65535}
	all := s.All()
	for range 3 {
		if got := slices.Collect(all); !slices.Equal(got, want) {
			t.Fatalf("the iterator gives %v", got)
		}
		for n := range all {
			if n == 63 {
				break
			}
		}
	}
	var pairs []int
	for a := range all {
		for b := range all {
			if b > a {
				break
			}
			pairs = append(pairs, a, b)
		}
	}
	var wanted []int
	for i, a := range want {
		for _, b := range want[:i+1] {
			wanted = append(wanted, a, b)
		}
	}
	if !slices.Equal(pairs, wanted) {
		t.Errorf("nested loops give %v", pairs)
	}
	for range (Set{}).All() {
		t.Error("the empty set has an element")
	}
}

// P4.2: an iterator is that of the set from which it came, whatever is made of the set meanwhile.
func TestAllWhileBuilding(t *testing.T) {
	s := Of(1, 2, 70, 65535)
	left, grown := s, s
	var seen []int
	for n := range s.All() {
		seen = append(seen, n)
		left = left.Without(n)
		grown = grown.With(n + 1)
		s = s.Without(n).Without(n + 1).With(300)
	}
	if !slices.Equal(seen, []int{1, 2, 70, 65535}) {
		t.Errorf("the loop saw %v", seen)
	}
	check(t, left, nil, "what is left")
	check(t, grown, []int{1, 2, 3, 70, 71, 65535}, "what was added to")
	check(t, s, []int{300}, "what was changed")
}

// derive returns sets that are made of s and u by every function.
func derive(s, u Set) []Set {
	return []Set{
		s.With(0), s.With(5), s.With(64), s.With(100), s.With(65535), s.With(-1), s.With(65536),
		s.Without(0), s.Without(5), s.Without(64), s.Without(65535), s.Without(-1), s.Without(65536),
		s.Union(u), u.Union(s), s.Intersect(u), u.Intersect(s), s.Minus(u), u.Minus(s), s.Union(s), s.Intersect(s), s.Minus(s),
	}
}

// P4.2: no function changes a set: all those that took part in operations, and their results, are looked at
// again after every later operation.
func TestEarlierSets(t *testing.T) {
	lists := [][]int{nil, {0}, {5}, {0, 63}, {64}, {1, 64, 65}, {65535}, {0, 65535}, between(0, 64), between(0, 128), between(3, 200)}
	type memory struct {
		set  Set
		want []int
	}
	var sets []Set
	for _, l := range lists {
		sets = append(sets, Of(l...))
	}
	for i, s := range sets {
		for j, u := range sets {
			earlier := []memory{{s, lists[i]}, {u, lists[j]}}
			for _, d := range derive(s, u) {
				earlier = append(earlier, memory{d, slices.Collect(d.All())})
				// What is made of the result must not reach back to those from which the result was made.
				for _, e := range derive(d, s) {
					_, _ = e.Len(), e.String()
				}
				for k, m := range earlier {
					if !slices.Equal(slices.Collect(m.set.All()), m.want) {
						t.Fatalf("samples %d and %d: set %d became %v", i, j, k, m.set)
					}
				}
			}
		}
	}
}

// P4.2: two sets that are made of one do not meet, also where there is memory for more elements behind it.
func TestBranches(t *testing.T) {
	s := Of(1)
	for n := 64; n <= 640; n += 64 {
		next, other := s.With(n), s.With(n+1)
		joined := s.Union(Of(n+2, 65535))
		less := next.Without(n).With(n + 3)
		check(t, other, sorted(append(slices.Collect(s.All()), n+1)...), "the second branch at %d", n)
		check(t, joined, sorted(append(slices.Collect(s.All()), n+2, 65535)...), "the third branch at %d", n)
		check(t, less, sorted(append(slices.Collect(s.All()), n+3)...), "the fourth branch at %d", n)
		check(t, next, sorted(append(slices.Collect(s.All()), n)...), "the first branch at %d", n)
		s = next
	}
}

// P4.2: Of neither changes nor keeps the slice of its elements.
func TestArguments(t *testing.T) {
	l := []int{70, -1, 3, 65536, 70, 0}
	before := slices.Clone(l)
	s := Of(l...)
	if !slices.Equal(l, before) {
		t.Errorf("the argument became %v", l)
	}
	clear(l)
	check(t, s, []int{0, 3, 70}, "the set of a slice that was changed later")
	list := slices.Collect(s.All())
	clear(list)
	check(t, s, []int{0, 3, 70}, "the set whose collected elements were changed")
}

// P4.1: no integer of any size is in a set.
func TestStrangers(t *testing.T) {
	for i, l := range samples() {
		s := Of(l...)
		for _, n := range strangers {
			if s.Has(n) {
				t.Errorf("sample %d has %d", i, n)
			}
		}
	}
}
