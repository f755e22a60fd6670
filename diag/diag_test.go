package diag

import (
	"math"
	"slices"
	"strings"
	"testing"
)

// generator makes numbers that follow no simple rule. Its value is never 0.
type generator uint64

// below returns a number from 0 to n-1.
func (g *generator) below(n int) int {
	*g ^= *g << 13
	*g ^= *g >> 7
	*g ^= *g << 17
	return int((uint64(*g) >> 20) % uint64(n))
}

// pick returns one of some values.
func pick[T any](g *generator, l []T) T { return l[g.below(len(l))] }

// text returns a text of up to so many bytes, with line feeds as often as every second byte, or never.
func (g *generator) text(most int) string {
	var b []byte
	rarity := pick(g, []int{2, 3, 10, 100, math.MaxInt})
	for range g.below(most + 1) {
		switch {
		case g.below(rarity) == 0:
			b = append(b, '\n')
		case g.below(2) == 0:
			b = append(b, pick(g, []byte("ab \t\r\v\f\x00\x7f\x80\x85\xc2\xa0\xe2\xa8\xff^")))
		default:
			b = append(b, byte(g.below(256)))
		}
	}
	return string(b)
}

// place is a line and a column.
type place struct{ line, column int }

// places is the definition of Position: it returns the place of each offset, up to the length of the text.
func places(src string) []place {
	var l []place
	p := place{1, 1}
	for i := range len(src) {
		l = append(l, p)
		p.column++
		if src[i] == '\n' {
			p = place{p.line + 1, 1}
		}
	}
	return append(l, p)
}

// limited is the offset that stands for pos in a text of so many bytes.
func limited(pos, length int) int {
	switch {
	case pos < 0:
		return 0
	case pos > length:
		return length
	}
	return pos
}

// offsetsOf are the offsets of a text, those next to it, and the least and the greatest integers.
func offsetsOf(src string) []int {
	l := []int{math.MinInt, math.MinInt + 1, math.MinInt32, -1 << 32, -2}
	for pos := -1; pos <= len(src)+2; pos++ {
		l = append(l, pos)
	}
	return append(l, len(src)+1<<8, len(src)+1<<16, len(src)+1<<32, math.MaxInt32, math.MaxInt-1, math.MaxInt)
}

// numbersTo are those from -1 to so much and a little beyond, and the least and the greatest integers.
func numbersTo(n int) []int {
	l := []int{math.MinInt, math.MinInt + 1, math.MinInt32, -1 << 32, -2}
	for i := -1; i <= n+3; i++ {
		l = append(l, i)
	}
	return append(l, n+1<<8, n+1<<16, n+1<<32, math.MaxInt32, math.MaxInt-1, math.MaxInt)
}

// special are texts of the kinds that the chapter or its definitions tell apart.
func special() []string {
	return []string{
		"", "\n", "\n\n", "\n\n\n", "a", "a\n", "\na", "\na\n", "a\nb", "ab\nc", "a\n\nb", "\n\nab\n\n\nc\n\n", "abc", "abc\n", "\nabc",
		"\r", "\r\n", "\n\r", "a\r\nb\r\n", "a\rb\rc", "\x00", "\x00\n\x00", "a\x00b\nc\x00", "\v\f\u0085\u2028\u2029", "\t", "\t\n\t\t\n", " \t \t\n\t ",
		"\xff", "\x80\n\xbf", "\xc3\n\xa9", "é\nö", "日本\n語", "🙂\n🙂🙂", "\ufeffa\n", "\x8a\n\x0a\x1a", "^\n^", "\\n\n", "let x = 1;\n\tlet y = x;\n",
		strings.Repeat("x", 300) + "\n" + strings.Repeat("y", 70), strings.Repeat("\n", 300), strings.Repeat("\t\n", 300),
	}
}

// each calls f with every text of up to so many bytes of those in the alphabet.
func each(alphabet string, most int, f func(string)) {
	f("")
	if most == 0 {
		return
	}
	for i := range len(alphabet) {
		each(alphabet, most-1, func(rest string) { f(alphabet[i:i+1] + rest) })
	}
}

// checkPositions compares Position, Offset and Lines with the definition, for all numbers that matter in the text.
func checkPositions(t *testing.T, src string) {
	t.Helper()
	all := places(src)
	offsets := map[place]int{}
	for _, pos := range offsetsOf(src) {
		want := all[limited(pos, len(src))]
		if line, column := Position(src, pos); line != want.line || column != want.column {
			t.Fatalf("Position(%q, %d) = %d, %d, want %v", src, pos, line, column, want)
		}
	}
	for pos, p := range all {
		offsets[p] = pos
	}
	count := all[len(src)].line
	if n := Lines(src); n != count {
		t.Fatalf("Lines(%q) = %d, want %d", src, n, count)
	}
	longest := slices.MaxFunc(all, func(a, b place) int { return a.column - b.column }).column
	for _, line := range numbersTo(count) {
		for _, column := range numbersTo(longest) {
			want, known := offsets[place{line, column}]
			if pos, ok := Offset(src, line, column); pos != want || ok != known {
				t.Fatalf("Offset(%q, %d, %d) = %d, %t, want %d, %t", src, line, column, pos, ok, want, known)
			}
		}
	}
}

// P14.1: the example of the chapter.
func TestExamplePosition(t *testing.T) {
	const src = "ab\nc"
	if line, column := Position(src, 3); line != 2 || column != 1 {
		t.Errorf("offset 3 is line %d, column %d", line, column)
	}
	if line, column := Position(src, 2); line != 1 || column != 3 {
		t.Errorf("offset 2 is line %d, column %d", line, column)
	}
}

// P14.1: lines and columns counted by hand.
func TestPositionByHand(t *testing.T) {
	for _, c := range []struct {
		src          string
		pos          int
		line, column int
	}{
		{"", 0, 1, 1},
		{"", -1, 1, 1},
		{"", 1, 1, 1},
		{"\n", 0, 1, 1},
		{"\n", 1, 2, 1},
		{"\n", 2, 2, 1},
		{"\n\n", 1, 2, 1},
		{"\n\n", 2, 3, 1},
		{"ab\nc", -1, 1, 1},
		{"ab\nc", math.MinInt, 1, 1},
		{"ab\nc", 0, 1, 1},
		{"ab\nc", 1, 1, 2},
		{"ab\nc", 2, 1, 3},
		{"ab\nc", 3, 2, 1},
		{"ab\nc", 4, 2, 2},
		{"ab\nc", 5, 2, 2},
		{"ab\nc", math.MaxInt, 2, 2},
		{"ab\nc\n", 4, 2, 2},
		{"ab\nc\n", 5, 3, 1},
		{"ab\nc\n", 6, 3, 1},
		{"\n\nab\n\nc", 2, 3, 1},
		{"\n\nab\n\nc", 4, 3, 3},
		{"\n\nab\n\nc", 5, 4, 1},
		{"\n\nab\n\nc", 6, 5, 1},
		{"\n\nab\n\nc", 7, 5, 2},
		{"a\r\nb", 1, 1, 2},
		{"a\r\nb", 2, 1, 3},
		{"a\r\nb", 3, 2, 1},
		{"a\rb", 2, 1, 3},
		{"\x00\n\x00", 2, 2, 1},
		{"é\né", 2, 1, 3},
		{"é\né", 4, 2, 2},
		{"\t\tx", 2, 1, 3},
	} {
		if line, column := Position(c.src, c.pos); line != c.line || column != c.column {
			t.Errorf("Position(%q, %d) = %d, %d, want %d, %d", c.src, c.pos, line, column, c.line, c.column)
		}
	}
}

// P14.1: offsets counted by hand, and places that the text does not have.
func TestOffsetByHand(t *testing.T) {
	for _, c := range []struct {
		src          string
		line, column int
		pos          int
		ok           bool
	}{
		{"", 1, 1, 0, true},
		{"", 1, 2, 0, false},
		{"", 1, 0, 0, false},
		{"", 0, 1, 0, false},
		{"", 2, 1, 0, false},
		{"\n", 1, 1, 0, true},
		{"\n", 1, 2, 0, false},
		{"\n", 2, 1, 1, true},
		{"\n", 2, 2, 0, false},
		{"\n", 3, 1, 0, false},
		{"abc\nde\n\nf", 1, 1, 0, true},
		{"abc\nde\n\nf", 1, 3, 2, true},
		{"abc\nde\n\nf", 1, 4, 3, true},
		{"abc\nde\n\nf", 1, 5, 0, false},
		{"abc\nde\n\nf", 1, 0, 0, false},
		{"abc\nde\n\nf", 1, -1, 0, false},
		{"abc\nde\n\nf", 1, math.MinInt, 0, false},
		{"abc\nde\n\nf", 1, math.MaxInt, 0, false},
		{"abc\nde\n\nf", 2, 1, 4, true},
		{"abc\nde\n\nf", 2, 2, 5, true},
		{"abc\nde\n\nf", 2, 3, 6, true},
		{"abc\nde\n\nf", 2, 4, 0, false},
		{"abc\nde\n\nf", 2, 0, 0, false},
		{"abc\nde\n\nf", 2, -1, 0, false},
		{"abc\nde\n\nf", 2, math.MaxInt, 0, false},
		{"abc\nde\n\nf", 3, 1, 7, true},
		{"abc\nde\n\nf", 3, 2, 0, false},
		{"abc\nde\n\nf", 3, 0, 0, false},
		{"abc\nde\n\nf", 3, math.MaxInt, 0, false},
		{"abc\nde\n\nf", 4, 1, 8, true},
		{"abc\nde\n\nf", 4, 2, 9, true},
		{"abc\nde\n\nf", 4, 3, 0, false},
		{"abc\nde\n\nf", 4, -1, 0, false},
		{"abc\nde\n\nf", 4, math.MaxInt, 0, false},
		{"abc\nde\n\nf", 5, 1, 0, false},
		{"abc\nde\n\nf", math.MaxInt, 1, 0, false},
		{"abc\nde\n\nf", math.MaxInt, math.MaxInt, 0, false},
		{"abc\nde\n\nf", 0, 1, 0, false},
		{"abc\nde\n\nf", -1, 1, 0, false},
		{"abc\nde\n\nf", math.MinInt, 1, 0, false},
		{"abc\nde\n\nf", math.MinInt, math.MinInt, 0, false},
		{"a\n", 2, 1, 2, true},
		{"a\n", 2, 2, 0, false},
		{"a\n", 3, 1, 0, false},
		{"é\r\nö", 1, 4, 3, true},
		{"é\r\nö", 1, 5, 0, false},
		{"é\r\nö", 2, 3, 6, true},
		{"é\r\nö", 2, 4, 0, false},
	} {
		if pos, ok := Offset(c.src, c.line, c.column); pos != c.pos || ok != c.ok {
			t.Errorf("Offset(%q, %d, %d) = %d, %t, want %d, %t", c.src, c.line, c.column, pos, ok, c.pos, c.ok)
		}
	}
}

// P14.1: numbers of lines counted by hand.
func TestLinesByHand(t *testing.T) {
	for _, c := range []struct {
		src  string
		want int
	}{
		{"", 1}, {"a", 1}, {"\n", 2}, {"a\n", 2}, {"\na", 2}, {"a\nb", 2}, {"\n\n", 3}, {"\na\n", 3}, {"a\n\n\nb\n", 5},
		{"\r", 1}, {"\r\n", 2}, {"a\rb", 1}, {"\x00", 1}, {"\v\f\u0085\u2028", 1}, {"\\n", 1}, {strings.Repeat("\n", 1000), 1001},
	} {
		if n := Lines(c.src); n != c.want {
			t.Errorf("Lines(%q) = %d, want %d", c.src, n, c.want)
		}
	}
}

// P14.1, P14.2: texts of each kind, and all short texts.
func TestPositions(t *testing.T) {
	for _, src := range special() {
		checkPositions(t, src)
	}
	each("\na", 9, func(src string) { checkPositions(t, src) })
	each("\n\r\t\x00\xff", 4, func(src string) { checkPositions(t, src) })
}

// P14.1: every byte but the line feed is a part of a line.
func TestEachByte(t *testing.T) {
	for b := range 256 {
		src := "x" + string([]byte{byte(b)}) + "y"
		checkPositions(t, src)
		want := 1
		if b == 10 {
			want = 2
		}
		if Lines(src) != want {
			t.Errorf("Lines(%q) = %d", src, Lines(src))
		}
	}
}

// checkInverse checks that Offset and Position invert each other at every offset of a text.
func checkInverse(t *testing.T, src string) {
	t.Helper()
	before := place{}
	for pos := range len(src) + 1 {
		line, column := Position(src, pos)
		if got, ok := Offset(src, line, column); got != pos || !ok {
			t.Fatalf("Offset(%q, %d, %d) = %d, %t, want %d", src, line, column, got, ok, pos)
		}
		next := place{line, column}
		if follows := next == (place{before.line, before.column + 1}) || next == (place{before.line + 1, 1}); !follows {
			t.Fatalf("%q: offset %d is %v, the one before it %v", src, pos, next, before)
		}
		before = next
	}
	if before.line != Lines(src) {
		t.Fatalf("%q: the end is in line %d of %d", src, before.line, Lines(src))
	}
}

// checkInversePlace checks that Position gives a line and column back that Offset knows, and that Offset knows them if
// it should.
func checkInversePlace(t *testing.T, src string, line, column int) {
	t.Helper()
	lines := strings.Split(src, "\n")
	known := 1 <= line && line <= len(lines) && 1 <= column && column <= len(lines[line-1])+1
	pos, ok := Offset(src, line, column)
	if ok != known {
		t.Fatalf("Offset(%q, %d, %d) = %d, %t", src, line, column, pos, ok)
	}
	if !ok {
		if pos != 0 {
			t.Fatalf("Offset(%q, %d, %d) = %d, false", src, line, column, pos)
		}
		return
	}
	if l, c := Position(src, pos); l != line || c != column {
		t.Fatalf("Offset(%q, %d, %d) = %d, which is %d, %d", src, line, column, pos, l, c)
	}
}

// P14.2: random texts.
func TestInverse(t *testing.T) {
	g := generator(1)
	for range 2000 {
		src := g.text(200)
		checkInverse(t, src)
		for range 50 {
			checkInversePlace(t, src, g.below(Lines(src)+4)-1, g.below(20)-1)
			checkInversePlace(t, src, g.below(Lines(src)+4)-1, g.below(len(src)+4)-1)
		}
		// What comes behind an offset does not change what is known of it.
		pos, more := g.below(len(src)+1), g.text(50)
		line, column := Position(src, pos)
		if l, c := Position(src+more, pos); l != line || c != column {
			t.Fatalf("offset %d is %d, %d in %q, and %d, %d with %q behind it", pos, line, column, src, l, c, more)
		}
		if Lines(src+"\n"+more) != Lines(src)+Lines(more) {
			t.Fatalf("Lines of %q and %q", src, more)
		}
	}
}

// P14.1, P14.2: random texts in comparison with the definition.
func TestPositionsAtRandom(t *testing.T) {
	g := generator(2)
	for range 300 {
		checkPositions(t, g.text(60))
	}
}

// P14.1, P14.2: long texts, at their ends and at random offsets.
func TestLongTexts(t *testing.T) {
	g := generator(3)
	const size = 1 << 20
	for _, c := range []struct {
		unit  string
		lines int
	}{{"x", 1}, {"\n", size + 1}, {"x\n", size/2 + 1}, {"abc\tdef\n", size/8 + 1}, {strings.Repeat("y", 1<<16-1) + "\n", 17}} {
		src := strings.Repeat(c.unit, size/len(c.unit))
		if Lines(src) != c.lines {
			t.Fatalf("%d lines, want %d", Lines(src), c.lines)
		}
		perLine := len(c.unit)
		if c.lines == 1 {
			perLine = size + 1
		}
		for range 100 {
			pos := pick(&g, []int{0, 1, size - 1, size, g.below(size + 1), g.below(size + 1)})
			line, column := Position(src, pos)
			if line != pos/perLine+1 || column != pos%perLine+1 {
				t.Fatalf("%d times %.9q: offset %d is %d, %d", size/len(c.unit), c.unit, pos, line, column)
			}
			if got, ok := Offset(src, line, column); got != pos || !ok {
				t.Fatalf("%d times %.9q: Offset(%d, %d) = %d, %t, want %d", size/len(c.unit), c.unit, line, column, got, ok, pos)
			}
		}
	}
}
