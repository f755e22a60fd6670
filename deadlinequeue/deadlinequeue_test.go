package deadlinequeue

import (
	"maps"
	"math"
	"math/big"
	"slices"
	"testing"

	"trickle/api"
)

const last = api.MaxTime

// generator makes numbers that follow no simple rule. Its value is never 0.
type generator uint64

// below returns a number from 0 to n-1.
func (g *generator) below(n int) int {
	*g ^= *g << 13
	*g ^= *g >> 7
	*g ^= *g << 17
	return int((uint64(*g) >> 20) % uint64(n))
}

// pick returns one of some values.
func pick[T any](g *generator, l []T) T { return l[g.below(len(l))] }

// shuffled returns some items in another order.
func shuffled(g *generator, l []Item) []Item {
	l = slices.Clone(l)
	for i := len(l) - 1; i > 0; i-- {
		j := g.below(i + 1)
		l[i], l[j] = l[j], l[i]
	}
	return l
}

// before is the order of the definition.
func before(a, b Item) bool {
	return a.Deadline < b.Deadline || a.Deadline == b.Deadline && a.ID < b.ID
}

// plain is a queue that is kept as a list, of which each operation looks at every item.
type plain []Item

func (p plain) index(id int) int {
	return slices.IndexFunc(p, func(x Item) bool { return x.ID == id })
}

func (p *plain) push(x Item) {
	p.remove(x.ID)
	*p = append(*p, x)
}

func (p *plain) remove(id int) bool {
	i := p.index(id)
	if i < 0 {
		return false
	}
	*p = slices.Delete(*p, i, i+1)
	return true
}

func (p plain) peek() (Item, bool) {
	if len(p) == 0 {
		return Item{}, false
	}
	first := p[0]
	for _, x := range p {
		if before(x, first) {
			first = x
		}
	}
	return first, true
}

func (p *plain) pop() (Item, bool) {
	first, found := p.peek()
	if found {
		p.remove(first.ID)
	}
	return first, found
}

func (p plain) items() []Item {
	var list []Item
	for rest := slices.Clone(p); len(rest) > 0; {
		first, _ := rest.pop()
		list = append(list, first)
	}
	return list
}

// queueOf returns a queue to which items were pushed one after the other.
func queueOf(l ...Item) *Queue {
	q := New()
	for _, x := range l {
		q.Push(x)
	}
	return q
}

// check compares all that a queue tells without being changed with the items that it should contain.
func check(t *testing.T, q *Queue, want []Item, text string) {
	t.Helper()
	if got := q.Items(); !slices.Equal(got, want) {
		t.Fatalf("%s: Items() = %v, want %v", text, got, want)
	}
	if q.Len() != len(want) {
		t.Fatalf("%s: Len() = %d, want %d", text, q.Len(), len(want))
	}
	var first Item
	if len(want) > 0 {
		first = want[0]
	}
	if got, found := q.Peek(); got != first || found != (len(want) > 0) {
		t.Fatalf("%s: Peek() = %v, %v, want %v", text, got, found, first)
	}
}

// checkPops pops all items of a queue, and then once more than there are.
func checkPops(t *testing.T, q *Queue, want []Item, text string) {
	t.Helper()
	for i, x := range want {
		check(t, q, want[i:], text)
		if got, found := q.Pop(); got != x || !found {
			t.Fatalf("%s: Pop() = %v, %v, want %v", text, got, found, x)
		}
	}
	checkEmpty(t, q, text)
}

// checkEmpty tests every method but Push of a queue without items.
func checkEmpty(t *testing.T, q *Queue, text string) {
	t.Helper()
	check(t, q, nil, text)
	for range 2 {
		if got, found := q.Pop(); got != (Item{}) || found {
			t.Fatalf("%s: Pop() of an empty queue = %v, %v", text, got, found)
		}
	}
	for _, id := range ids {
		if q.Remove(id) {
			t.Fatalf("%s: Remove(%d) of an empty queue found an item", text, id)
		}
	}
	check(t, q, nil, text)
}

// ids and deadlines are integers of every kind: negative, 0, positive, the least and the greatest ones.
var (
	ids       = []int{math.MinInt, math.MinInt + 1, -1 << 32, -7, -1, 0, 1, 2, 5, 1 << 32, math.MaxInt - 1, math.MaxInt}
	deadlines = []int64{math.MinInt64, math.MinInt64 + 1, -last, -1 << 31, -2, -1, 0, 1, 2, 10, 1 << 32, last - 1, last, last + 1, math.MaxInt64 - 1, math.MaxInt64}
)

// permutations returns the items in every order.
func permutations(l []Item) [][]Item {
	if len(l) == 0 {
		return [][]Item{nil}
	}
	var list [][]Item
	for i, x := range l {
		rest := slices.Delete(slices.Clone(l), i, i+1)
		for _, p := range permutations(rest) {
			list = append(list, append([]Item{x}, p...))
		}
	}
	return list
}

// P6.1: the chapter's example.
func TestQueueExample(t *testing.T) {
	q := queueOf(Item{5, 30}, Item{9, 10}, Item{7, 10}, Item{5, 0})
	checkPops(t, q, []Item{{5, 0}, {7, 10}, {9, 10}}, "the example")
}

// P6.1: every method of a queue that is new, that became empty, or that is used again afterwards.
func TestEmpty(t *testing.T) {
	checkEmpty(t, New(), "a new queue")
	checkEmpty(t, &Queue{}, "the zero Queue")
	q := &Queue{}
	q.Push(Item{0, 0})
	check(t, q, []Item{{0, 0}}, "one zero Item")
	if got, found := q.Pop(); got != (Item{}) || !found {
		t.Errorf("Pop() = %v, %v", got, found)
	}
	checkEmpty(t, q, "popped")
	q.Push(Item{3, -4})
	check(t, q, []Item{{3, -4}}, "pushed after it was popped")
	if !q.Remove(3) {
		t.Error("Remove(3) found nothing")
	}
	checkEmpty(t, q, "removed")
	checkPops(t, queueOf(Item{3, 9}), []Item{{3, 9}}, "one item")
}

// P6.1: Peek does not remove, and two queues have nothing in common.
func TestTwoQueues(t *testing.T) {
	a, b := queueOf(Item{1, 5}, Item{2, 4}), queueOf(Item{1, 7}, Item{3, 6})
	for range 3 {
		if x, found := a.Peek(); x != (Item{2, 4}) || !found {
			t.Errorf("Peek() = %v, %v", x, found)
		}
	}
	b.Remove(1)
	b.Push(Item{2, 0})
	check(t, a, []Item{{2, 4}, {1, 5}}, "the first queue")
	check(t, b, []Item{{2, 0}, {3, 6}}, "the second queue")
}

// P6.1, P6.2: items of every kind, pushed in different orders, come in order.
func TestOrder(t *testing.T) {
	var list []Item
	for i, d := range deadlines {
		for j, id := range ids {
			// An ID is in a queue once only, so every queue gets each ID with one of the deadlines.
			if (i+j)%3 == 0 {
				list = append(list, Item{id, d})
			}
		}
	}
	g := generator(1)
	for range 300 {
		var p plain
		q := New()
		for _, x := range shuffled(&g, list) {
			p.push(x)
			q.Push(x)
		}
		if len(p) != len(ids) {
			t.Fatalf("%d IDs", len(p))
		}
		checkPops(t, q, p.items(), "a mix of items")
	}
}

// P6.1: each two items, in both orders, of which equal deadlines leave the order to the IDs.
func TestPairs(t *testing.T) {
	for _, c := range deadlines {
		for _, d := range deadlines {
			for i, a := range ids {
				for j, b := range ids {
					want := []Item{{a, c}, {b, d}}
					if a == b {
						want = want[1:]
					} else if d < c || d == c && j < i {
						want = []Item{{b, d}, {a, c}}
					}
					check(t, queueOf(Item{a, c}, Item{b, d}), want, "two items")
				}
			}
		}
	}
}

// P6.1, P6.2: every order of six items, of which some have equal deadlines, and the removal of each of them.
func TestPermutations(t *testing.T) {
	want := []Item{{4, -1}, {-2, 3}, {0, 3}, {6, 3}, {1, 8}, {5, 9}}
	for _, l := range permutations(want) {
		checkPops(t, queueOf(l...), want, "a permutation")
		for i, x := range want {
			q := queueOf(l...)
			if !q.Remove(x.ID) || q.Remove(x.ID) {
				t.Fatalf("Remove(%d) twice from %v", x.ID, l)
			}
			checkPops(t, q, slices.Delete(slices.Clone(want), i, i+1), "a permutation without an item")
		}
	}
}

// P6.1: each item of a queue is pushed again, with every deadline: earlier, equal or later, before, between,
// equal to and behind those of the others.
func TestPushAgain(t *testing.T) {
	list := []Item{{8, 10}, {3, 20}, {9, 20}, {1, 30}, {7, 40}}
	for _, l := range permutations(list) {
		for _, x := range list {
			for _, d := range []int64{math.MinInt64, 0, 9, 10, 11, 19, 20, 21, 30, 31, 40, 41, math.MaxInt64} {
				q, p := queueOf(l...), plain(slices.Clone(l))
				q.Push(Item{x.ID, d})
				p.push(Item{x.ID, d})
				check(t, q, p.items(), "pushed again")
				q.Push(x)
				check(t, q, list, "pushed back")
			}
		}
	}
}

// P6.1: what is not there, or not there any more, is not removed.
func TestRemove(t *testing.T) {
	q := queueOf(Item{5, 10}, Item{6, 20}, Item{7, 30})
	for _, id := range []int{math.MinInt, -5, 0, 4, 8, 10, 20, math.MaxInt} {
		if q.Remove(id) {
			t.Errorf("Remove(%d) found an item", id)
		}
	}
	check(t, q, []Item{{5, 10}, {6, 20}, {7, 30}}, "nothing was removed")
	if !q.Remove(6) || q.Remove(6) {
		t.Error("Remove(6) twice")
	}
	check(t, q, []Item{{5, 10}, {7, 30}}, "6 was removed")
	if x, found := q.Pop(); x != (Item{5, 10}) || !found || q.Remove(5) {
		t.Error("5 was removed after it was popped")
	}
	q.Push(Item{6, 5})
	check(t, q, []Item{{6, 5}, {7, 30}}, "6 is back")
	if !q.Remove(7) || !q.Remove(6) {
		t.Error("6 or 7 was not found")
	}
	checkEmpty(t, q, "all were removed")
}

// P6.1: the result of Items shares no memory with the queue or with another result, so that a change of one is
// seen in no other.
func TestItemsCopied(t *testing.T) {
	want := []Item{{2, 10}, {1, 20}, {3, 30}}
	q := queueOf(want[1], want[2], want[0])
	first, second := q.Items(), q.Items()
	for i := range first {
		first[i] = Item{9, 99}
	}
	_ = append(first[:1], Item{8, 88}, Item{7, 77})
	check(t, q, want, "the result of Items was changed")
	if !slices.Equal(second, want) {
		t.Errorf("a second result became %v", second)
	}
	q.Push(Item{1, 5})
	q.Push(Item{4, 0})
	q.Remove(2)
	q.Pop()
	if !slices.Equal(second, want) {
		t.Errorf("after operations, an earlier result became %v", second)
	}
	checkPops(t, q, []Item{{1, 5}, {3, 30}}, "the operations")
}

// operate performs an operation, chosen by the generator, on a queue and on a list that is kept plainly.
func operate(t *testing.T, g *generator, q *Queue, p *plain, ids []int, deadlines []int64) {
	t.Helper()
	switch g.below(10) {
	case 0, 1, 2, 3, 4:
		x := Item{pick(g, ids), pick(g, deadlines)}
		q.Push(x)
		p.push(x)
	case 5, 6:
		id := pick(g, ids)
		if got, want := q.Remove(id), p.remove(id); got != want {
			t.Fatalf("Remove(%d) = %v, want %v", id, got, want)
		}
	case 7, 8:
		got, found := q.Pop()
		if want, wanted := p.pop(); got != want || found != wanted {
			t.Fatalf("Pop() = %v, %v, want %v, %v", got, found, want, wanted)
		}
	case 9:
		clear(q.Items())
	}
}

// P6.1: any sequence of operations agrees with a list that is kept plainly. P6.2: popping all items gives
// them in order.
func TestOperations(t *testing.T) {
	few, many := []int{0, 1, 2, 3}, make([]int, 60)
	near, far := []int64{0, 1, 2}, make([]int64, 200)
	for i := range many {
		many[i] = 31*i - 900
	}
	for i := range far {
		far[i] = int64(977*i) - 90000
	}
	g := generator(2)
	for round := range 400 {
		var p plain
		q := New()
		someIDs, someDeadlines := pick(&g, [][]int{few, many, ids}), pick(&g, [][]int64{near, far, deadlines})
		for range 20 + round {
			operate(t, &g, q, &p, someIDs, someDeadlines)
			check(t, q, p.items(), "an operation")
		}
		checkPops(t, q, q.Items(), "all operations")
	}
}

// P6.1, P6.2: many items, pushed in ascending, descending and mixed order, changed, and removed in part.
func TestMany(t *testing.T) {
	const n = 50000
	up := make([]Item, n)
	for i := range up {
		up[i] = Item{i*7919%n - n/2, int64(i / 3)}
	}
	slices.SortFunc(up, func(a, b Item) int {
		if before(a, b) {
			return -1
		}
		return 1
	})
	down := slices.Clone(up)
	slices.Reverse(down)
	g := generator(3)
	for i, l := range [][]Item{up, down, shuffled(&g, up)} {
		q := queueOf(l...)
		for _, x := range shuffled(&g, l) {
			q.Push(Item{x.ID, x.Deadline + int64(g.below(1000)) - 500})
		}
		for _, x := range l {
			q.Push(x)
		}
		if !slices.Equal(q.Items(), up) || q.Len() != n {
			t.Fatalf("many items, order %d: wrong items", i)
		}
		for k, x := range up {
			if k%2 == 0 && (!q.Remove(x.ID) || q.Remove(x.ID)) {
				t.Fatalf("many items, order %d: Remove(%d)", i, x.ID)
			}
		}
		for k, x := range up {
			if k%2 == 1 {
				if got, found := q.Pop(); got != x || !found {
					t.Fatalf("many items, order %d: Pop() = %v, %v, want %v", i, got, found, x)
				}
			}
		}
		checkEmpty(t, q, "many items")
	}
}

// feasible is the definition of Feasible, with numbers of any size.
func feasible(now int64, l []Item, duration map[int]int64) (int, api.Errno) {
	if now < 0 || now > last {
		return 0, api.ErrInvalid
	}
	for i, x := range l {
		d := duration[x.ID]
		if x.Deadline < 0 || x.Deadline > last || d < 0 || d > last || plain(l).index(x.ID) != i {
			return 0, api.ErrInvalid
		}
	}
	time := big.NewInt(now)
	for _, x := range plain(l).items() {
		time.Add(time, big.NewInt(duration[x.ID]))
		if time.Cmp(big.NewInt(x.Deadline)) > 0 {
			return x.ID, api.ErrExpired
		}
	}
	return 0, api.OK
}

// job is a call of Feasible with its result.
type job struct {
	now      int64
	l        []Item
	duration map[int]int64
	id       int
	e        api.Errno
}

// checkJob tests a call, also with its items in the opposite order, which makes no difference.
func checkJob(t *testing.T, x job) {
	t.Helper()
	list, duration := slices.Clone(x.l), maps.Clone(x.duration)
	for range 2 {
		given := slices.Clone(list)
		if id, e := Feasible(x.now, list, duration); id != x.id || e != x.e {
			t.Fatalf("Feasible(%d, %v, %v) = %d, %d, want %d, %d", x.now, list, duration, id, e, x.id, x.e)
		}
		if !slices.Equal(list, given) || !maps.Equal(duration, x.duration) {
			t.Fatalf("Feasible(%d, %v, %v) changed its arguments to %v and %v", x.now, given, x.duration, list, duration)
		}
		slices.Reverse(list)
	}
}

// takes is a map of durations.
type takes = map[int]int64

// P6.1: the chapter's example, no jobs, no durations, and jobs that finish at their deadlines or a tick later.
func TestFeasible(t *testing.T) {
	two := []Item{{1, 10}, {2, 12}}
	for _, x := range []job{
		{0, two, takes{1: 6, 2: 6}, 0, api.OK},
		{1, two, takes{1: 6, 2: 6}, 2, api.ErrExpired},
		{4, two, takes{1: 6, 2: 2}, 0, api.OK},
		{5, two, takes{1: 6, 2: 1}, 1, api.ErrExpired},
		{0, nil, nil, 0, api.OK},
		{0, []Item{}, takes{}, 0, api.OK},
		{last, nil, takes{3: 7}, 0, api.OK},
		{7, nil, nil, 0, api.OK},
		{10, two, nil, 0, api.OK},
		{11, two, nil, 1, api.ErrExpired},
		{10, two, takes{}, 0, api.OK},
		{10, two, takes{1: 0}, 0, api.OK},
		{10, two, takes{2: 2}, 0, api.OK},
		{10, two, takes{2: 3}, 2, api.ErrExpired},
		{10, two, takes{1: 1}, 1, api.ErrExpired},
		{10, []Item{{1, 10}}, nil, 0, api.OK},
		{9, []Item{{1, 10}}, takes{1: 1}, 0, api.OK},
		{9, []Item{{1, 10}}, takes{1: 2}, 1, api.ErrExpired},
		{10, []Item{{1, 10}}, takes{1: 1}, 1, api.ErrExpired},
		{0, []Item{{0, 0}}, nil, 0, api.OK},
		{0, []Item{{0, 0}}, takes{0: 1}, 0, api.ErrExpired},
		{1, []Item{{0, 0}}, nil, 0, api.ErrExpired},
	} {
		checkJob(t, x)
	}
}

// P6.1: the first job that is late, in the order of the items, whatever the order of the slice; jobs with
// equal deadlines are executed by ascending ID, also those with IDs of every size.
func TestFeasibleOrder(t *testing.T) {
	for _, x := range []job{
		{0, []Item{{3, 30}, {1, 10}, {2, 20}}, takes{1: 10, 2: 10, 3: 10}, 0, api.OK},
		{1, []Item{{3, 30}, {1, 10}, {2, 20}}, takes{1: 10, 2: 10, 3: 10}, 1, api.ErrExpired},
		{0, []Item{{3, 30}, {1, 10}, {2, 20}}, takes{1: 10, 2: 11, 3: 10}, 2, api.ErrExpired},
		{0, []Item{{3, 30}, {1, 10}, {2, 20}}, takes{1: 10, 2: 10, 3: 11}, 3, api.ErrExpired},
		{0, []Item{{3, 30}, {1, 10}, {2, 20}}, takes{1: 11, 2: 11, 3: 11}, 1, api.ErrExpired},
		{0, []Item{{3, 10}, {1, 30}, {2, 20}}, takes{1: 10, 2: 11, 3: 10}, 2, api.ErrExpired},
		// The second job is late, and the third, which is not, does not make up for it.
		{0, []Item{{1, 5}, {2, 6}, {3, 100}}, takes{1: 5, 2: 5, 3: 1}, 2, api.ErrExpired},
		{0, []Item{{9, 10}, {4, 10}, {6, 10}}, takes{9: 4, 4: 4, 6: 4}, 9, api.ErrExpired},
		{0, []Item{{9, 10}, {4, 10}, {6, 10}}, takes{9: 4, 4: 6, 6: 6}, 6, api.ErrExpired},
		{3, []Item{{9, 10}, {4, 10}, {6, 10}}, takes{9: 8, 4: 8, 6: 8}, 4, api.ErrExpired},
		{0, []Item{{math.MaxInt, 5}, {math.MinInt, 5}, {0, 5}}, takes{math.MaxInt: 1, math.MinInt: 3, 0: 2}, math.MaxInt, api.ErrExpired},
		{0, []Item{{math.MaxInt, 5}, {math.MinInt, 5}, {0, 5}}, takes{math.MaxInt: 1, math.MinInt: 3, 0: 3}, 0, api.ErrExpired},
		{3, []Item{{math.MaxInt, 5}, {math.MinInt, 5}, {0, 5}}, takes{math.MaxInt: 1, math.MinInt: 3, 0: 3}, math.MinInt, api.ErrExpired},
		{0, []Item{{math.MaxInt, 5}, {math.MinInt, 5}, {-1, 5}}, takes{math.MaxInt: 1, math.MinInt: 3, -1: 1}, 0, api.OK},
	} {
		checkJob(t, x)
	}
}

// P6.1: times at both ends of what is valid, and sums beyond it.
func TestFeasibleBounds(t *testing.T) {
	one := []Item{{1, last}}
	for _, x := range []job{
		{0, one, takes{1: last}, 0, api.OK},
		{1, one, takes{1: last}, 1, api.ErrExpired},
		{last, one, takes{1: last}, 1, api.ErrExpired},
		{last, one, nil, 0, api.OK},
		{last, one, takes{1: 1}, 1, api.ErrExpired},
		{last - 1, one, takes{1: 1}, 0, api.OK},
		{last, []Item{{1, 0}}, nil, 1, api.ErrExpired},
		{0, []Item{{1, 0}, {2, last}}, takes{2: last}, 0, api.OK},
		{0, []Item{{1, last}, {2, last}}, takes{1: last, 2: last}, 2, api.ErrExpired},
		{0, []Item{{1, last}, {2, last}, {3, last}}, takes{1: last, 3: 0}, 0, api.OK},
		{0, []Item{{1, last}, {2, last}, {3, last}}, takes{1: last, 3: 1}, 3, api.ErrExpired},
		{0, []Item{{1, last}, {2, last}}, takes{1: last / 2, 2: last / 2}, 0, api.OK},
		{0, []Item{{1, last}, {2, last}}, takes{1: last / 2, 2: last/2 + 1}, 2, api.ErrExpired},
		{last, []Item{{1, last}, {2, last}, {3, last}}, takes{1: last, 2: last, 3: last}, 1, api.ErrExpired},
		// Durations of items that are not in the list have no meaning.
		{0, one, takes{1: 5, 2: -1, 3: last + 1, 0: math.MinInt64}, 0, api.OK},
		{0, nil, takes{1: -1}, 0, api.OK},
	} {
		checkJob(t, x)
	}
}

// P6.1: every condition for ErrInvalid, alone, and together with others and with jobs that are late.
func TestFeasibleInvalid(t *testing.T) {
	good := []Item{{1, 10}, {2, 20}, {3, 30}}
	late := []Item{{5, 0}, {6, 1}}
	for _, n := range []int64{math.MinInt64, math.MinInt64 + 1, -last, -2, -1, last + 1, last + 2, 2 * last, math.MaxInt64 - 1, math.MaxInt64} {
		for _, x := range []job{
			{n, nil, nil, 0, api.ErrInvalid},
			{n, good, nil, 0, api.ErrInvalid},
			{0, append([]Item{{7, n}}, good...), nil, 0, api.ErrInvalid},
			{0, append([]Item{{1, 10}, {7, n}}, good[1:]...), nil, 0, api.ErrInvalid},
			{last, append([]Item{{7, n}}, late...), nil, 0, api.ErrInvalid},
			{0, good, takes{1: n}, 0, api.ErrInvalid},
			{0, good, takes{2: n}, 0, api.ErrInvalid},
			{0, good, takes{3: n, 1: 1}, 0, api.ErrInvalid},
			{5, append([]Item{{7, 20}}, late...), takes{5: 10, 7: n}, 0, api.ErrInvalid},
			{n, []Item{{1, n}}, takes{1: n}, 0, api.ErrInvalid},
			{n, late, takes{5: n, 6: 9}, 0, api.ErrInvalid},
			{3, []Item{{1, n}, {1, 5}}, takes{1: n}, 0, api.ErrInvalid},
		} {
			checkJob(t, x)
		}
	}
}

// P6.1: two items with the same ID, with equal or different deadlines, next to each other and far apart.
func TestFeasibleSameID(t *testing.T) {
	for _, x := range []job{
		{0, []Item{{1, 10}, {1, 10}}, nil, 0, api.ErrInvalid},
		{0, []Item{{1, 10}, {1, 20}}, takes{1: 1}, 0, api.ErrInvalid},
		{0, []Item{{0, 10}, {0, 20}}, nil, 0, api.ErrInvalid},
		{0, []Item{{1, 10}, {2, 15}, {1, 20}}, nil, 0, api.ErrInvalid},
		{0, []Item{{1, 10}, {2, 10}, {3, 10}, {1, 10}}, nil, 0, api.ErrInvalid},
		{15, []Item{{1, 10}, {2, 15}, {1, 20}}, takes{1: 5, 2: 9}, 0, api.ErrInvalid},
		{-1, []Item{{1, 10}, {1, 10}}, nil, 0, api.ErrInvalid},
		{0, []Item{{1, -1}, {1, -1}}, nil, 0, api.ErrInvalid},
		{0, []Item{{1, 5}, {1, 5}}, takes{1: -1}, 0, api.ErrInvalid},
		{0, []Item{{math.MinInt, 1}, {math.MaxInt, 2}, {math.MinInt, 3}}, nil, 0, api.ErrInvalid},
		{0, []Item{{1, 10}, {-1, 10}, {2, 10}, {-2, 10}}, nil, 0, api.OK},
	} {
		checkJob(t, x)
	}
	var many []Item
	for i := range 3000 {
		many = append(many, Item{i, int64(i)})
	}
	checkJob(t, job{0, many, nil, 0, api.OK})
	for _, i := range []int{1, 2, 1500, 2999} {
		twice := slices.Clone(many)
		twice[i].ID = 0
		checkJob(t, job{0, twice, nil, 0, api.ErrInvalid})
	}
}

// meets reports whether jobs that are executed in the order of the slice meet all deadlines.
func meets(now int64, l []Item, duration map[int]int64) bool {
	for _, x := range l {
		now += duration[x.ID]
		if now > x.Deadline {
			return false
		}
	}
	return true
}

// checkProperties tests P6.2 for jobs whose numbers are valid, and that every order of the slice has the
// result of the definition.
func checkProperties(t *testing.T, now int64, l []Item, duration map[int]int64) {
	t.Helper()
	id, e := feasible(now, l, duration)
	some := false
	for _, p := range permutations(l) {
		some = some || meets(now, p, duration)
		checkJob(t, job{now, p, duration, id, e})
	}
	if some != (e == api.OK) {
		t.Fatalf("jobs %v from %d on, with %v: some order meets all deadlines: %v, that of the items: %d", l, now, duration, some, e)
	}
	if e != api.OK {
		return
	}
	for earlier := max(now-3, 0); earlier < now; earlier++ {
		checkJob(t, job{earlier, l, duration, 0, api.OK})
	}
	checkJob(t, job{0, l, duration, 0, api.OK})
	for i := range l {
		checkJob(t, job{now, slices.Delete(slices.Clone(l), i, i+1), duration, 0, api.OK})
	}
}

// P6.1, P6.2: all pairs and triples of short jobs.
func TestFeasibleEveryShort(t *testing.T) {
	const count = 4 // of deadlines and of durations
	for code := range count * count * count * count * count * count {
		var l []Item
		duration := takes{}
		for i, c := 0, code; i < 3; i, c = i+1, c/count/count {
			l = append(l, Item{7 - 3*i, int64(c % count * 2)})
			duration[7-3*i] = int64(c / count % count)
		}
		for now := range int64(2) {
			checkProperties(t, now, l, duration)
			checkProperties(t, now, l[:2], duration)
		}
	}
}

// P6.1, P6.2: random jobs that are about as long as their deadlines allow.
func TestFeasibleRandom(t *testing.T) {
	g := generator(4)
	good := 0
	for range 4000 {
		n := g.below(6)
		l, duration := []Item(nil), takes{}
		scale := pick(&g, []int64{1, 1000, last / 1000})
		for len(l) < n {
			x := Item{pick(&g, ids), int64(g.below(12*n+1)) * scale}
			if plain(l).index(x.ID) < 0 {
				l = append(l, x)
				if g.below(5) > 0 {
					duration[x.ID] = int64(g.below(9)) * scale
				}
			}
		}
		now := int64(g.below(6)) * scale
		checkProperties(t, now, l, duration)
		if _, e := feasible(now, l, duration); e == api.OK && n > 2 {
			good++
		}
	}
	if good < 200 || good > 3000 {
		t.Errorf("%d of the random lists of jobs are feasible", good)
	}
}

// P6.1: random arguments of every kind, of which about half are not valid, agree with the definition.
func TestFeasibleAnything(t *testing.T) {
	numbers := []int64{math.MinInt64, -1, 0, 1, 2, 3, 500, 1000, 1 << 31, last / 2, last - 1, last, last + 1, math.MaxInt64}
	g := generator(5)
	// number returns a time in most calls, and now and then an integer that is none.
	number := func() int64 {
		if g.below(12) == 0 {
			return pick(&g, numbers)
		}
		return pick(&g, numbers[2:len(numbers)-2])
	}
	var results [18]int
	for range 60000 {
		l, duration := []Item(nil), takes{}
		for range g.below(7) {
			l = append(l, Item{pick(&g, ids), max(number(), number())})
		}
		for _, id := range ids {
			if g.below(2) == 0 {
				duration[id] = min(number(), number())
			}
		}
		now := min(number(), number())
		id, e := feasible(now, l, duration)
		checkJob(t, job{now, l, duration, id, e})
		results[e]++
	}
	for _, e := range []api.Errno{api.OK, api.ErrInvalid, api.ErrExpired} {
		if results[e] < 5000 {
			t.Errorf("error %d is the result of %d calls only", e, results[e])
		}
	}
}

// P6.1: many jobs, of which one in the middle is the first that is late.
func TestFeasibleMany(t *testing.T) {
	const n = 100000
	l, duration := make([]Item, n), takes{}
	for i := range l {
		l[i] = Item{n - i, int64(i+1) * 3}
		duration[n-i] = 3
	}
	g := generator(6)
	l = shuffled(&g, l)
	checkJob(t, job{0, l, duration, 0, api.OK})
	checkJob(t, job{1, l, duration, n, api.ErrExpired})
	duration[n/2] = 4
	checkJob(t, job{0, l, duration, n / 2, api.ErrExpired})
	l[n-1].ID = l[0].ID
	checkJob(t, job{0, l, duration, 0, api.ErrInvalid})
}
