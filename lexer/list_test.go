package lexer

import (
	"fmt"
	"math"
	"slices"
	"strings"
	"testing"

	"trickle/api"
)

// P15.1: the keywords and the punctuation marks are those of the chapter, in ascending byte order.
func TestKeywordsAndPunctuation(t *testing.T) {
	for _, c := range []struct {
		name  string
		f     func() []string
		want  string
		count int
	}{{"Keywords", Keywords, allKeywords, 22}, {"Punctuation", Punctuation, allMarks, 23}} {
		got := c.f()
		if !slices.Equal(got, strings.Fields(c.want)) || len(got) != c.count {
			t.Errorf("%s returns %q", c.name, got)
		}
		if !slices.IsSorted(got) {
			t.Errorf("%s is not in order: %q", c.name, got)
		}
	}
}

// P15.1: what a caller does with a result of Keywords or Punctuation changes nothing.
func TestListsAreNew(t *testing.T) {
	const src = "channel while within a ! || } = =="
	want := tokensOf(src)
	for _, f := range []func() []string{Keywords, Punctuation} {
		before := slices.Clone(f())
		second := f()
		for _, l := range [][]string{f(), f()} {
			for i := range l {
				l[i] = []string{"a", "", "#"}[i%3]
			}
			slices.Reverse(l)
			_ = append(l[:1], "b")
			_ = append(l, "c")
		}
		if !slices.Equal(second, before) || !slices.Equal(f(), before) {
			t.Errorf("another result is %q, the next one %q", second, f())
		}
		same(t, src, want)
		if got := Join(withTexts("if", "a", "=", "==", "|", "|", "(")); got != "if a= ==| |(" {
			t.Errorf("Join returns %q", got)
		}
		grown := append(f(), "mine")
		_ = append(f(), "yours")
		if grown[len(grown)-1] != "mine" {
			t.Errorf("two results share memory")
		}
	}
}

// checkErrors compares Errors with its definition, and checks that it changes nothing.
func checkErrors(t *testing.T, l []Token) {
	t.Helper()
	before := slices.Clone(l)
	if got, want := Errors(l), errorsOf(l); !slices.Equal(got, want) {
		t.Fatalf("Errors(%s) = %v, want %v", quoted(l), got, want)
	}
	if !slices.Equal(l, before) {
		t.Fatalf("Errors changed %s to %s", quoted(before), quoted(l))
	}
}

// P15.1: diagnostics by hand.
func TestErrorsByHand(t *testing.T) {
	long := strings.Repeat("x", 33)
	for _, c := range []struct {
		l    []Token
		want []api.Diagnostic
	}{
		{nil, nil},
		{[]Token{}, nil},
		{[]Token{{EOF, "", 0, 0}}, nil},
		{[]Token{{Ident, long, 0, 1}, {Int, "007", 7, 2}, {Keyword, "#", 0, 3}, {Punct, "&", 0, 4}, {EOF, "#", 0, 5}}, nil},
		{[]Token{{-1, "#", 0, 1}, {6, "#", 0, 2}, {math.MinInt, "#", 0, 3}, {math.MaxInt, "#", 0, 4}, {5 + 256, "#", 0, 5}, {5 + 1<<32, "#", 0, 6}}, nil},
		{[]Token{{Invalid, long, 0, 7}}, []api.Diagnostic{{Pos: 7, Text: "identifier too long"}}},
		{[]Token{{Invalid, "_" + long, 0, 7}}, []api.Diagnostic{{Pos: 7, Text: "identifier too long"}}},
		{[]Token{{Invalid, "007", 0, 7}}, []api.Diagnostic{{Pos: 7, Text: "invalid integer"}}},
		{[]Token{{Invalid, "#", 0, 7}}, []api.Diagnostic{{Pos: 7, Text: "invalid character"}}},
		{[]Token{{Invalid, "", 0, 7}}, []api.Diagnostic{{Pos: 7, Text: "invalid character"}}},
		{[]Token{{Invalid, "\xff", 0, 7}}, []api.Diagnostic{{Pos: 7, Text: "invalid character"}}},
		{[]Token{{Invalid, "é", 0, 7}}, []api.Diagnostic{{Pos: 7, Text: "invalid character"}}},
		{[]Token{{Invalid, "٣", 0, 7}}, []api.Diagnostic{{Pos: 7, Text: "invalid character"}}},
		{[]Token{{Invalid, "#a", 0, 7}, {Invalid, " 1", 0, 8}}, []api.Diagnostic{{Pos: 7, Text: "invalid character"}, {Pos: 8, Text: "invalid character"}}},
		{[]Token{{Invalid, "a#", 0, 7}, {Invalid, "1a", 0, 8}}, []api.Diagnostic{{Pos: 7, Text: "identifier too long"}, {Pos: 8, Text: "invalid integer"}}},
		{[]Token{{Invalid, "if", 0, 7}, {Invalid, "12", 12, 8}, {Invalid, "&&", 0, 9}}, []api.Diagnostic{{Pos: 7, Text: "identifier too long"}, {Pos: 8, Text: "invalid integer"}, {Pos: 9, Text: "invalid character"}}},
		{[]Token{{Invalid, "#", 0, 9}, {Invalid, "#", 0, -3}, {Ident, "a", 0, 4}, {Invalid, "#", 0, 9}, {EOF, "", 0, 0}, {Invalid, "0", 0, math.MinInt}, {Invalid, "a", 0, math.MaxInt}},
			[]api.Diagnostic{{Pos: 9, Text: "invalid character"}, {Pos: -3, Text: "invalid character"}, {Pos: 9, Text: "invalid character"}, {Pos: math.MinInt, Text: "invalid integer"}, {Pos: math.MaxInt, Text: "identifier too long"}}},
		{Scan("a # 32768 " + long + " && & b"), []api.Diagnostic{{Pos: 2, Text: "invalid character"}, {Pos: 4, Text: "invalid integer"}, {Pos: 10, Text: "identifier too long"}, {Pos: 47, Text: "invalid character"}}},
		{Scan("x = 1; // # 007"), nil},
	} {
		if got := Errors(c.l); !slices.Equal(got, c.want) {
			t.Errorf("Errors(%s) = %v, want %v", quoted(c.l), got, c.want)
		}
		checkErrors(t, c.l)
	}
}

// P15.1: texts that begin with each byte.
func TestErrorsOfEachByte(t *testing.T) {
	count := map[string]int{}
	for b := range 256 {
		for _, rest := range []string{"", "a", "1", "_", "#", "\xff", "\n"} {
			text := string([]byte{byte(b)}) + rest
			for kind := -1; kind <= 7; kind++ {
				checkErrors(t, []Token{{kind, text, int16(b), b}})
			}
			count[Errors([]Token{{Invalid, text, 0, 0}})[0].Text]++
		}
	}
	if want := fmt.Sprint(map[string]int{"identifier too long": 53 * 7, "invalid integer": 10 * 7, "invalid character": 193 * 7}); fmt.Sprint(count) != want {
		t.Errorf("the diagnostics are %v, want %s", count, want)
	}
}

// P15.1: random tokens, and those of random texts.
func TestErrorsAtRandom(t *testing.T) {
	g := generator(3)
	for range 5000 {
		var l []Token
		for range g.below(12) {
			l = append(l, Token{pick(&g, []int{0, 1, 2, 3, 4, 5, 5, 5, 5, 6}), g.fragment(), int16(g.below(65536)), g.below(100) - 20})
		}
		checkErrors(t, l)
		checkErrors(t, Scan(g.source(30)))
	}
}

// P15.1: a token that Scan returns has a diagnostic if and only if it is invalid, and it says why it is.
func TestErrorsOfTexts(t *testing.T) {
	g := generator(4)
	for range 5000 {
		src := g.source(20)
		var want []api.Diagnostic
		for _, x := range Scan(src) {
			if x.Kind != Invalid {
				continue
			}
			reason := "invalid character"
			switch {
			case len(x.Text) > 32 && (x.Text[0] < '0' || x.Text[0] > '9'):
				reason = "identifier too long"
			case x.Text[0] == '0' || len(x.Text) > 4:
				reason = "invalid integer"
			}
			want = append(want, api.Diagnostic{Pos: x.Pos, Text: reason})
		}
		if got := Errors(Scan(src)); !slices.Equal(got, want) {
			t.Fatalf("%q: Errors returns %v, want %v", src, got, want)
		}
	}
}

// P15.1: what a caller does with a result of Errors does not change another one.
func TestErrorsIsNew(t *testing.T) {
	l := Scan("# 007 &")
	first, second := Errors(l), Errors(l)
	first[0], first[2] = api.Diagnostic{Pos: 9, Text: "x"}, api.Diagnostic{}
	_ = append(first[:1], api.Diagnostic{Pos: 8, Text: "y"})
	if !slices.Equal(second, errorsOf(l)) || !slices.Equal(Errors(l), errorsOf(l)) {
		t.Errorf("another result is %v", second)
	}
}
