package diag

import (
	"fmt"
	"math"
	"slices"
	"strings"
	"testing"

	"trickle/api"
)

// formatted is the definition of Format.
func formatted(src string, l []api.Diagnostic) string {
	text := ""
	for _, d := range l {
		p := places(src)[limited(d.Pos, len(src))]
		text += fmt.Sprintf("%d:%d: %s\n", p.line, p.column, d.Text)
	}
	return text
}

// excerpt is the definition of Excerpt.
func excerpt(src string, pos int) string {
	p := places(src)[limited(pos, len(src))]
	line := strings.Split(src, "\n")[p.line-1]
	ahead := []byte(line[:p.column-1])
	for i, b := range ahead {
		if b != 9 {
			ahead[i] = 32
		}
	}
	return line + "\n" + string(ahead) + "^\n"
}

// P14.1: the example of the chapter.
func TestExampleFormat(t *testing.T) {
	if got := Format("ab\nc", []api.Diagnostic{{Pos: 3, Text: "unexpected c"}}); got != "2:1: unexpected c\n" {
		t.Errorf("Format returns %q", got)
	}
}

// P14.1: texts written by hand.
func TestFormatByHand(t *testing.T) {
	for _, c := range []struct {
		src  string
		l    []api.Diagnostic
		want string
	}{
		{"", nil, ""},
		{"ab\nc", nil, ""},
		{"ab\nc", []api.Diagnostic{}, ""},
		{"", []api.Diagnostic{{}}, "1:1: \n"},
		{"", []api.Diagnostic{{Pos: 5, Text: "x"}, {Pos: -5, Text: "y"}}, "1:1: x\n1:1: y\n"},
		{"\n", []api.Diagnostic{{Pos: 0, Text: "x"}, {Pos: 1, Text: "y"}, {Pos: 2, Text: "z"}}, "1:1: x\n2:1: y\n2:1: z\n"},
		{"ab\nc", []api.Diagnostic{{Pos: 2, Text: "a"}, {Pos: 4, Text: "b"}}, "1:3: a\n2:2: b\n"},
		{"ab\nc", []api.Diagnostic{{Pos: 4, Text: "b"}, {Pos: 0, Text: "a"}, {Pos: 3, Text: "c"}}, "2:2: b\n1:1: a\n2:1: c\n"},
		{"ab\nc", []api.Diagnostic{{Pos: 1, Text: "a"}, {Pos: 1, Text: "a"}, {Pos: 0, Text: "b"}, {Pos: 1, Text: "a"}}, "1:2: a\n1:2: a\n1:1: b\n1:2: a\n"},
		{"ab\nc", []api.Diagnostic{{Pos: -1, Text: "a"}, {Pos: math.MinInt, Text: "b"}, {Pos: 5, Text: "c"}, {Pos: math.MaxInt, Text: "d"}}, "1:1: a\n1:1: b\n2:2: c\n2:2: d\n"},
		{"ab\nc", []api.Diagnostic{{Pos: 3, Text: "one\ntwo\n"}}, "2:1: one\ntwo\n\n"},
		{"ab\nc", []api.Diagnostic{{Pos: 3, Text: " \t\x00\xff%d\\ "}}, "2:1:  \t\x00\xff%d\\ \n"},
		{strings.Repeat("\n", 99) + strings.Repeat("x", 200), []api.Diagnostic{{Pos: 99, Text: "a"}, {Pos: 98, Text: "b"}, {Pos: 298, Text: "c"}}, "100:1: a\n99:1: b\n100:200: c\n"},
		{strings.Repeat("x", 16384), []api.Diagnostic{{Pos: 16383, Text: "a"}, {Pos: 16384, Text: "b"}}, "1:16384: a\n1:16385: b\n"},
	} {
		before := slices.Clone(c.l)
		if got := Format(c.src, c.l); got != c.want {
			t.Errorf("Format(%.20q, %v) = %q, want %q", c.src, c.l, got, c.want)
		}
		if !slices.Equal(c.l, before) {
			t.Errorf("Format changed %v to %v", before, c.l)
		}
	}
}

// P14.1: every offset of texts of each kind, and of all short texts, alone and all of them in one call.
func TestFormat(t *testing.T) {
	check := func(src string) {
		t.Helper()
		var l []api.Diagnostic
		for i, pos := range offsetsOf(src) {
			d := api.Diagnostic{Pos: pos, Text: []string{"", "m", "two\nlines", "é"}[i%4]}
			l = append(l, d)
			if got, want := Format(src, []api.Diagnostic{d}), formatted(src, []api.Diagnostic{d}); got != want {
				t.Fatalf("Format(%q, %v) = %q, want %q", src, d, got, want)
			}
		}
		slices.Reverse(l)
		if got, want := Format(src, l), formatted(src, l); got != want {
			t.Fatalf("Format(%q, %v) = %q, want %q", src, l, got, want)
		}
	}
	for _, src := range special() {
		check(src)
	}
	each("\na", 7, check)
	each("\n\r\t\x00\xff", 3, check)
}

// P14.1: random texts and diagnostics in any order, and what Format has in common with Position and with All.
func TestFormatAtRandom(t *testing.T) {
	g := generator(30)
	for range 1000 {
		src := g.text(100)
		var l []api.Diagnostic
		for range g.below(20) {
			l = append(l, api.Diagnostic{Pos: pick(&g, offsetsOf(src)), Text: g.text(5)})
		}
		if got, want := Format(src, l), formatted(src, l); got != want {
			t.Fatalf("Format(%q, %v) = %q, want %q", src, l, got, want)
		}
		all, one := collect(l).All(), ""
		for _, d := range all {
			line, column := Position(src, d.Pos)
			one += fmt.Sprint(line, ":", column, ": ", d.Text, "\n")
		}
		if got := Format(src, all); got != one {
			t.Fatalf("Format(%q, %v) = %q, want %q", src, all, got, one)
		}
	}
}

// P14.1: many diagnostics in a long text.
func TestManyDiagnostics(t *testing.T) {
	const n = 200000
	src := strings.Repeat("ab\n", n)
	l := make([]api.Diagnostic, 0, n)
	for i := range n {
		l = append(l, api.Diagnostic{Pos: 3*(n-1-i) + i%3, Text: "m"})
	}
	lines := strings.Split(Format(src, l), "\n")
	if len(lines) != n+1 || lines[n] != "" {
		t.Fatalf("%d lines", len(lines))
	}
	for i, line := range lines[:n] {
		if want := fmt.Sprintf("%d:%d: m", n-i, i%3+1); line != want {
			t.Fatalf("line %d is %q, want %q", i, line, want)
		}
	}
}

// P14.1: excerpts written by hand.
func TestExcerptByHand(t *testing.T) {
	for _, c := range []struct {
		src  string
		pos  int
		want string
	}{
		{"", 0, "\n^\n"},
		{"", -1, "\n^\n"},
		{"", 1, "\n^\n"},
		{"\n", 0, "\n^\n"},
		{"\n", 1, "\n^\n"},
		{"a", 0, "a\n^\n"},
		{"a", 1, "a\n ^\n"},
		{"a", 2, "a\n ^\n"},
		{"a", math.MaxInt, "a\n ^\n"},
		{"a", math.MinInt, "a\n^\n"},
		{"ab\ncde\nf", 0, "ab\n^\n"},
		{"ab\ncde\nf", -7, "ab\n^\n"},
		{"ab\ncde\nf", 1, "ab\n ^\n"},
		{"ab\ncde\nf", 2, "ab\n  ^\n"},
		{"ab\ncde\nf", 3, "cde\n^\n"},
		{"ab\ncde\nf", 5, "cde\n  ^\n"},
		{"ab\ncde\nf", 6, "cde\n   ^\n"},
		{"ab\ncde\nf", 7, "f\n^\n"},
		{"ab\ncde\nf", 8, "f\n ^\n"},
		{"ab\ncde\nf", 9, "f\n ^\n"},
		{"ab\n\nc\n", 2, "ab\n  ^\n"},
		{"ab\n\nc\n", 3, "\n^\n"},
		{"ab\n\nc\n", 5, "c\n ^\n"},
		{"ab\n\nc\n", 6, "\n^\n"},
		{"ab\n\nc\n", 7, "\n^\n"},
		{"\tx = 1;", 0, "\tx = 1;\n^\n"},
		{"\tx = 1;", 1, "\tx = 1;\n\t^\n"},
		{"\tx = 1;", 3, "\tx = 1;\n\t  ^\n"},
		{"a\t\tb\tc", 1, "a\t\tb\tc\n ^\n"},
		{"a\t\tb\tc", 2, "a\t\tb\tc\n \t^\n"},
		{"a\t\tb\tc", 3, "a\t\tb\tc\n \t\t^\n"},
		{"a\t\tb\tc", 5, "a\t\tb\tc\n \t\t \t^\n"},
		{"\t\n\t\t", 1, "\t\n\t^\n"},
		{"\t\n\t\t", 2, "\t\t\n^\n"},
		{"\t\n\t\t", 4, "\t\t\n\t\t^\n"},
		{"x\n\ty\n", 3, "\ty\n\t^\n"},
		{"é = 1\n", 2, "é = 1\n  ^\n"},
		{"é = 1\n", 3, "é = 1\n   ^\n"},
		{"é = 1\n", 1, "é = 1\n ^\n"},
		{"a\rb\r\nc", 3, "a\rb\r\n   ^\n"},
		{"a\rb\r\nc", 4, "a\rb\r\n    ^\n"},
		{"\x00\xff\v\f\x08\xc2\xa0x", 7, "\x00\xff\v\f\x08\xc2\xa0x\n       ^\n"},
		{"^^^", 2, "^^^\n  ^\n"},
	} {
		if got := Excerpt(c.src, c.pos); got != c.want {
			t.Errorf("Excerpt(%q, %d) = %q, want %q", c.src, c.pos, got, c.want)
		}
	}
}

// P14.1: every offset of texts of each kind, and of all short texts.
func TestExcerpt(t *testing.T) {
	check := func(src string) {
		t.Helper()
		for _, pos := range offsetsOf(src) {
			if got, want := Excerpt(src, pos), excerpt(src, pos); got != want {
				t.Fatalf("Excerpt(%q, %d) = %q, want %q", src, pos, got, want)
			}
		}
	}
	for _, src := range special() {
		check(src)
	}
	each("\n\ta", 6, check)
	each("\n\t \r\x00\xff^", 3, check)
	for b := range 256 {
		check("\t" + string([]byte{byte(b), byte(b)}) + "x\n" + string([]byte{byte(b)}))
	}
}

// P14.1: random texts.
func TestExcerptAtRandom(t *testing.T) {
	g := generator(31)
	for range 500 {
		src := g.text(200)
		for range 20 {
			pos := pick(&g, offsetsOf(src))
			got := Excerpt(src, pos)
			if want := excerpt(src, pos); got != want {
				t.Fatalf("Excerpt(%q, %d) = %q, want %q", src, pos, got, want)
			}
			// The caret is as far to the right as the column says.
			_, column := Position(src, pos)
			if lines := strings.Split(got, "\n"); len(lines) != 3 || len(lines[1]) != column || lines[2] != "" {
				t.Fatalf("Excerpt(%q, %d) = %q", src, pos, got)
			}
		}
	}
}

// P14.1: a line that is long, between other long ones.
func TestLongExcerpt(t *testing.T) {
	const n = 1 << 18
	line := strings.Repeat("\tx", n)
	src := strings.Repeat("y", n) + "\n" + line + "\n" + strings.Repeat("z", n)
	for _, at := range []int{0, 1, 2, n - 1, n, 2*n - 1, 2 * n} {
		want := line + "\n" + strings.ReplaceAll(line[:at], "x", " ") + "^\n"
		if got := Excerpt(src, n+1+at); got != want {
			t.Fatalf("column %d: %d bytes, want %d", at+1, len(got), len(want))
		}
	}
}
