package diag

import (
	"bytes"
	"math"
	"slices"
	"strings"
	"testing"

	"trickle/api"
)

// before is the order of All.
func before(a, b api.Diagnostic) bool {
	if a.Pos != b.Pos {
		return a.Pos < b.Pos
	}
	return bytes.Compare([]byte(a.Text), []byte(b.Text)) < 0
}

// ordered is the definition of All, for diagnostics that were added in this order.
func ordered(added []api.Diagnostic) []api.Diagnostic {
	var all []api.Diagnostic
	for _, d := range added {
		at := 0
		for at < len(all) && before(all[at], d) {
			at++
		}
		if at == len(all) || all[at] != d {
			all = slices.Insert(all, at, d)
		}
	}
	return all
}

// collect adds diagnostics to an empty list.
func collect(added []api.Diagnostic) *List {
	var l List
	for _, d := range added {
		l.Add(d.Pos, d.Text)
	}
	return &l
}

// checkList compares a list with the definition.
func checkList(t *testing.T, l *List, added []api.Diagnostic) {
	t.Helper()
	want := ordered(added)
	if got := l.All(); !slices.Equal(got, want) {
		t.Fatalf("after %v: All returns %v, want %v", added, got, want)
	}
	if l.Err() != (len(added) > 0) {
		t.Fatalf("after %v: Err returns %t", added, l.Err())
	}
}

// diagnostics differ in one place or in both; the positions and texts are at the ends of their kind, and around 0.
func diagnostics() []api.Diagnostic {
	var l []api.Diagnostic
	for _, pos := range []int{math.MinInt, math.MinInt32, -256, -2, -1, 0, 1, 2, 10, 255, 256, 1 << 14, 1 << 31, 1 << 32, math.MaxInt} {
		for _, text := range []string{"", "\x00", "\n", " ", "!", "0", "10", "2", "A", "B", "a", "a\x00", "aa", "ab", "b", "z", "\x7f", "\x80", "\x80a", "\xbf", "é", "\uffff", "🙂", "\xfe", "\xff", "\xff\xff"} {
			l = append(l, api.Diagnostic{Pos: pos, Text: text})
		}
	}
	return l
}

// P14.1: the zero List.
func TestEmptyList(t *testing.T) {
	var l List
	if l.Err() || len(l.All()) != 0 || l.Err() || len(l.All()) != 0 {
		t.Fatalf("Err %t, All %v", l.Err(), l.All())
	}
	l.Add(0, "")
	if want := []api.Diagnostic{{}}; !l.Err() || !slices.Equal(l.All(), want) {
		t.Fatalf("Err %t, All %v", l.Err(), l.All())
	}
}

// P14.1: lists worked out by hand.
func TestListByHand(t *testing.T) {
	for _, c := range []struct {
		what        string
		added, want []api.Diagnostic
	}{
		{"one", []api.Diagnostic{{Pos: 3, Text: "x"}}, []api.Diagnostic{{Pos: 3, Text: "x"}}},
		{"equal, directly after", []api.Diagnostic{{Pos: 3, Text: "x"}, {Pos: 3, Text: "x"}}, []api.Diagnostic{{Pos: 3, Text: "x"}}},
		{"equal, later", []api.Diagnostic{{Pos: 3, Text: "x"}, {Pos: 1, Text: "y"}, {Pos: 3, Text: "x"}}, []api.Diagnostic{{Pos: 1, Text: "y"}, {Pos: 3, Text: "x"}}},
		{"equal, behind a later one", []api.Diagnostic{{Pos: 3, Text: "x"}, {Pos: 5, Text: "y"}, {Pos: 3, Text: "x"}}, []api.Diagnostic{{Pos: 3, Text: "x"}, {Pos: 5, Text: "y"}}},
		{"another text", []api.Diagnostic{{Pos: 3, Text: "y"}, {Pos: 3, Text: "x"}}, []api.Diagnostic{{Pos: 3, Text: "x"}, {Pos: 3, Text: "y"}}},
		{"another position", []api.Diagnostic{{Pos: 3, Text: "x"}, {Pos: 2, Text: "x"}}, []api.Diagnostic{{Pos: 2, Text: "x"}, {Pos: 3, Text: "x"}}},
		{"position ahead of text", []api.Diagnostic{{Pos: 2, Text: "z"}, {Pos: 10, Text: "a"}, {Pos: 1, Text: "m"}}, []api.Diagnostic{{Pos: 1, Text: "m"}, {Pos: 2, Text: "z"}, {Pos: 10, Text: "a"}}},
		{"negative", []api.Diagnostic{{Pos: 0, Text: "c"}, {Pos: -1, Text: "b"}, {Pos: -2, Text: "a"}, {Pos: math.MinInt, Text: "d"}}, []api.Diagnostic{{Pos: math.MinInt, Text: "d"}, {Pos: -2, Text: "a"}, {Pos: -1, Text: "b"}, {Pos: 0, Text: "c"}}},
		{"far apart", []api.Diagnostic{{Pos: math.MaxInt, Text: "a"}, {Pos: math.MinInt, Text: "a"}, {Pos: 1, Text: "a"}}, []api.Diagnostic{{Pos: math.MinInt, Text: "a"}, {Pos: 1, Text: "a"}, {Pos: math.MaxInt, Text: "a"}}},
		{"empty text", []api.Diagnostic{{Pos: 0, Text: "a"}, {Pos: 0}, {Pos: 0}}, []api.Diagnostic{{Pos: 0}, {Pos: 0, Text: "a"}}},
		{"start of the other", []api.Diagnostic{{Pos: 7, Text: "abc"}, {Pos: 7, Text: "ab"}, {Pos: 7, Text: "abcd"}}, []api.Diagnostic{{Pos: 7, Text: "ab"}, {Pos: 7, Text: "abc"}, {Pos: 7, Text: "abcd"}}},
		{"bytes of 80 and above", []api.Diagnostic{{Pos: 7, Text: "\xff"}, {Pos: 7, Text: "z"}, {Pos: 7, Text: "\x80"}, {Pos: 7, Text: "\x7f"}}, []api.Diagnostic{{Pos: 7, Text: "z"}, {Pos: 7, Text: "\x7f"}, {Pos: 7, Text: "\x80"}, {Pos: 7, Text: "\xff"}}},
		{"bytes that are not UTF-8", []api.Diagnostic{{Pos: 7, Text: "\xff"}, {Pos: 7, Text: "\xfe"}, {Pos: 7, Text: "\xef\xbf\xbd"}}, []api.Diagnostic{{Pos: 7, Text: "\xef\xbf\xbd"}, {Pos: 7, Text: "\xfe"}, {Pos: 7, Text: "\xff"}}},
		{"upper case", []api.Diagnostic{{Pos: 7, Text: "a"}, {Pos: 7, Text: "B"}}, []api.Diagnostic{{Pos: 7, Text: "B"}, {Pos: 7, Text: "a"}}},
		{"numbers in texts", []api.Diagnostic{{Pos: 7, Text: "2"}, {Pos: 7, Text: "10"}}, []api.Diagnostic{{Pos: 7, Text: "10"}, {Pos: 7, Text: "2"}}},
	} {
		if l := collect(c.added); !slices.Equal(l.All(), c.want) || !l.Err() {
			t.Errorf("%s: All returns %v, Err %t, want %v", c.what, l.All(), l.Err(), c.want)
		}
	}
}

// P14.1: each two diagnostics, in both orders.
func TestPairs(t *testing.T) {
	for _, a := range diagnostics() {
		for _, b := range diagnostics() {
			checkList(t, collect([]api.Diagnostic{a, b}), []api.Diagnostic{a, b})
		}
	}
}

// addAll adds each sequence of diagnostics of up to so many, and checks the list after each of them.
func addAll(t *testing.T, from []api.Diagnostic, added []api.Diagnostic, most int) {
	checkList(t, collect(added), added)
	if most == 0 {
		return
	}
	for _, d := range from {
		addAll(t, from, append(slices.Clone(added), d), most-1)
	}
}

// P14.1: all short sequences.
func TestShortLists(t *testing.T) {
	addAll(t, []api.Diagnostic{{Pos: 0, Text: "a"}, {Pos: 0, Text: "b"}, {Pos: 1, Text: "a"}, {Pos: -1, Text: "b"}, {Pos: 1, Text: ""}}, nil, 6)
}

// P14.1: the list after every single Add.
func TestListGrows(t *testing.T) {
	g := generator(20)
	for range 100 {
		var l List
		var added []api.Diagnostic
		kinds := diagnostics()[:1+g.below(len(diagnostics()))]
		for range g.below(60) {
			d := pick(&g, kinds)
			l.Add(d.Pos, d.Text)
			added = append(added, d)
			checkList(t, &l, added)
		}
	}
}

// P14.2: the order in which diagnostics are added, and how often, does not matter.
func TestOrderOfAdds(t *testing.T) {
	g := generator(21)
	for range 1000 {
		var added []api.Diagnostic
		for range g.below(40) {
			d := api.Diagnostic{Pos: g.below(10) - 2, Text: g.text(3)}
			if g.below(2) == 0 {
				d = pick(&g, diagnostics())
			}
			added = append(added, d)
		}
		want := collect(added).All()
		for range 5 {
			shuffled := slices.Clone(added)
			for i := range shuffled {
				j := g.below(i + 1)
				shuffled[i], shuffled[j] = shuffled[j], shuffled[i]
			}
			for range g.below(5) {
				if len(added) > 0 {
					shuffled = append(shuffled, pick(&g, added))
				}
			}
			if got := collect(shuffled).All(); !slices.Equal(got, want) {
				t.Fatalf("after %v: %v, after %v: %v", added, want, shuffled, got)
			}
		}
		for i := 1; i < len(want); i++ {
			if !before(want[i-1], want[i]) {
				t.Fatalf("%v: %v is not before %v", added, want[i-1], want[i])
			}
		}
	}
}

// P14.1: what a caller does with a result of All changes neither the list nor another result.
func TestAllIsNew(t *testing.T) {
	l := collect([]api.Diagnostic{{Pos: 2, Text: "b"}, {Pos: 1, Text: "a"}, {Pos: 3, Text: "c"}})
	want := []api.Diagnostic{{Pos: 1, Text: "a"}, {Pos: 2, Text: "b"}, {Pos: 3, Text: "c"}}
	first, second := l.All(), l.All()
	first[0], first[2] = api.Diagnostic{Pos: 9, Text: "z"}, api.Diagnostic{}
	_ = append(first[:1], api.Diagnostic{Pos: 8, Text: "y"})
	_ = append(first, api.Diagnostic{Pos: 7, Text: "x"})
	if !slices.Equal(second, want) || !slices.Equal(l.All(), want) {
		t.Fatalf("another result is %v, All returns %v", second, l.All())
	}
	third := append(l.All(), api.Diagnostic{Pos: 6, Text: "mine"})
	l.Add(4, "d")
	if third[3] != (api.Diagnostic{Pos: 6, Text: "mine"}) || !slices.Equal(second, want) {
		t.Fatalf("after Add: %v, %v", third, second)
	}
	if want = append(want, api.Diagnostic{Pos: 4, Text: "d"}); !slices.Equal(l.All(), want) {
		t.Fatalf("All returns %v", l.All())
	}
	// What was changed in a result was not added, and may be.
	l.Add(9, "z")
	if want = append(want, api.Diagnostic{Pos: 9, Text: "z"}); !slices.Equal(l.All(), want) {
		t.Fatalf("All returns %v", l.All())
	}
}

// P14.1: lists have nothing in common.
func TestTwoLists(t *testing.T) {
	a, b := collect([]api.Diagnostic{{Pos: 1, Text: "a"}}), collect(nil)
	if b.Err() || len(b.All()) != 0 {
		t.Fatalf("All returns %v", b.All())
	}
	b.Add(2, "b")
	if !slices.Equal(a.All(), []api.Diagnostic{{Pos: 1, Text: "a"}}) || !slices.Equal(b.All(), []api.Diagnostic{{Pos: 2, Text: "b"}}) {
		t.Fatalf("All returns %v and %v", a.All(), b.All())
	}
}

// P14.1: many diagnostics.
func TestManyAdds(t *testing.T) {
	const n = 100000
	for _, step := range []int{1, n - 1, 7919} {
		var l List
		for i := range 2 * n {
			l.Add(i%n*step%n, strings.Repeat("x", i%n*step%n%2))
		}
		all := l.All()
		if len(all) != n {
			t.Fatalf("%d diagnostics", len(all))
		}
		for i, d := range all {
			if d.Pos != i || len(d.Text) != i%2 {
				t.Fatalf("diagnostic %d is %v", i, d)
			}
		}
	}
}
