package sensor

import (
	"fmt"
	"math/big"
	"regexp"
	"slices"
	"strings"
	"testing"

	"trickle/api"
)

// format is the definition of Format.
func format(l []Change) string {
	s := ""
	for _, c := range l {
		s += fmt.Sprintf("%d %d\n", c.Time, c.Value)
	}
	return s
}

// form matches a line with its end: two numbers without leading zeros, of which the second may be negative.
var form = regexp.MustCompile(`\A(0|[1-9][0-9]*) (0|-?[1-9][0-9]*)\n\z`)

// within returns the number with a text, and whether it is from lo to hi. Numbers of any size are exact.
func within(s string, lo, hi int64) (int64, bool) {
	n, _ := new(big.Int).SetString(s, 10)
	return n.Int64(), n.Cmp(big.NewInt(lo)) >= 0 && n.Cmp(big.NewInt(hi)) <= 0
}

// meaning is the definition of Parse: the changes with a text, or the number of the first invalid line.
func meaning(s string) ([]Change, int) {
	var l []Change
	for i, line := range strings.SplitAfter(s, "\n") {
		if line == "" {
			break // behind the last line feed, or in the empty text
		}
		parts := form.FindStringSubmatch(line)
		if parts == nil {
			return nil, i + 1
		}
		time, timeOK := within(parts[1], 0, last)
		value, valueOK := within(parts[2], -32768, 32767)
		if !timeOK || !valueOK || len(l) > 0 && time <= l[len(l)-1].Time {
			return nil, i + 1
		}
		l = append(l, Change{time, int16(value)})
	}
	return l, 0
}

// checkParse compares Parse of any text with the definition, and Format with the text.
func checkParse(t *testing.T, s string) (valid bool) {
	t.Helper()
	l, number := meaning(s)
	if number > 0 {
		checkInvalid(t, s, number)
		return false
	}
	x, got, e := Parse(s)
	if x == nil || got != 0 || e != api.OK {
		t.Fatalf("Parse(%q) = %v, %d, %d", s, x, got, e)
	}
	if !slices.Equal(x.Changes(), l) {
		t.Fatalf("Parse(%q) has the changes %v, want %v", s, x.Changes(), l)
	}
	if again := x.Format(); again != s {
		t.Fatalf("Parse(%q) has the format %q", s, again)
	}
	return true
}

// checkInvalid tests that the first invalid line of a text is the one with a number.
func checkInvalid(t *testing.T, s string, number int) {
	t.Helper()
	if x, got, e := Parse(s); x != nil || got != number || e != api.ErrSyntax {
		t.Fatalf("Parse(%q) = %v, %d, %d, want line %d", s, x, got, e, number)
	}
}

// P10.1, P10.2: texts worked out by hand.
func TestTexts(t *testing.T) {
	for _, c := range []struct {
		l    []Change
		text string
	}{
		{nil, ""},
		{[]Change{{0, 0}}, "0 0\n"},
		{[]Change{{0, -1}}, "0 -1\n"},
		{[]Change{{7, 32767}}, "7 32767\n"},
		{[]Change{{10, -32768}}, "10 -32768\n"},
		{[]Change{{last, 100}}, "1099511627776 100\n"},
		{[]Change{{5, 20}, {9, -3}}, "5 20\n9 -3\n"},
		{[]Change{{9, -3}, {10, -3}}, "9 -3\n10 -3\n"},
		{[]Change{{0, 0}, {1, 0}, {2, 0}}, "0 0\n1 0\n2 0\n"},
		{[]Change{{99, -10}, {100, 10}, {last - 1, -1}, {last, 1}}, "99 -10\n100 10\n1099511627775 -1\n1099511627776 1\n"},
	} {
		if got := trace(t, c.l...).Format(); got != c.text {
			t.Errorf("Format of %v = %q, want %q", c.l, got, c.text)
		}
		if l, number := meaning(c.text); !slices.Equal(l, c.l) || number != 0 {
			t.Errorf("the definition: %v, line %d", l, number)
		}
		if !checkParse(t, c.text) {
			t.Errorf("%q is not valid", c.text)
		}
	}
}

// P10.1, P10.2: every value, and every edge time.
func TestEveryValue(t *testing.T) {
	var l []Change
	for v := -40000; v <= 40000; v++ {
		s := fmt.Sprintf("3 %d\n", v)
		if checkParse(t, s) != (-32768 <= v && v <= 32767) {
			t.Fatalf("%q: the definition is wrong", s)
		}
		if v == int(int16(v)) {
			l = append(l, Change{int64(len(l)), int16(v)})
		}
	}
	x := trace(t, l...)
	lines := strings.SplitAfter(x.Format(), "\n")
	for i, c := range l {
		if want := fmt.Sprintf("%d %d\n", c.Time, c.Value); lines[i] != want {
			t.Fatalf("line %q, want %q", lines[i], want)
		}
	}
	checkParse(t, x.Format())
	for _, time := range numbers() {
		for _, v := range values() {
			s := fmt.Sprintf("%d %d\n", time, v)
			if checkParse(t, s) != (0 <= time && time <= last) {
				t.Fatalf("%q: the definition is wrong", s)
			}
		}
	}
}

// invalidLines returns lines, without their ends, that are invalid wherever they stand.
func invalidLines() []string {
	digits, zeros := strings.Repeat("9", 1000), strings.Repeat("0", 1000)
	return []string{
		// Missing and other parts.
		"", " ", "  ", "55", "55 ", " 20", "-", "55 -", "- 20", "- -", "-3", "5520", "55,20", "55\t20", "55-20", "55;20", "55 20 30", "55 20 ", " 55 20", "55  20", "55 20  ", "  55 20",
		"55 \t20", "55\t 20", "\t55 20", "55 20\t", "55 20;", "55 20 # text", "55@20", "55\u00a020", "55\u200320", "55\v20", "55\x0020",
		// Carriage returns and other ends of a line.
		"\r", "55 20\r", "\r55 20", "55\r20", "55 \r20", "55 20\x00", "\x0055 20", "55 20\u2028", "55 20\u0085", "\ufeff55 20",
		// Leading zeros and signs.
		"055 20", "00 20", "0055 20", zeros + " 20", zeros + "55 20", "55 020", "55 00", "55 0020", "55 " + zeros, "55 " + zeros + "20", "55 -020", "55 -00", "55 -03",
		"+55 20", "+0 20", "+ 20", "55 +20", "55 +0", "55 +", "55 +-3", "55 -+3", "55 --3", "55 -0", "55 - 3", "55 3-", "-0 20", "-1 20", "-55 20", "-55 -3", "--55 20", "55- 20",
		"-1099511627776 20", "-9223372036854775808 20", "-9223372036854775809 20", "-" + digits + " 20", "55 \u22123", "55 \u20133",
		// Numbers beyond their ranges, and those that are in range modulo a power of two.
		"1099511627777 20", "1099511627778 20", "10995116277760 20", "2199023255607 20", "9223372036854775807 20", "9223372036854775808 20", "9223372036854775863 20",
		"18446744073709551615 20", "18446744073709551616 20", "18446744073709551671 20", "340282366920938463463374607431768211511 20", digits + " 20",
		"55 32768", "55 32769", "55 40000", "55 65535", "55 65536", "55 65556", "55 99999", "55 100000", "55 4294967295", "55 4294967296", "55 4294967316", "55 1099511627776",
		"55 9223372036854775807", "55 9223372036854775808", "55 18446744073709551615", "55 18446744073709551616", "55 18446744073709551636", "55 " + digits, "55 " + digits + "9",
		"55 -32769", "55 -32770", "55 -65535", "55 -65536", "55 -65539", "55 -100000", "55 -4294967296", "55 -4294967299", "55 -9223372036854775808", "55 -9223372036854775809",
		"55 -18446744073709551616", "55 -18446744073709551619", "55 -" + digits, digits + " " + digits,
		// Other ways to write numbers.
		"a 20", "55 a", "x", "55a 20", "55 20a", "0x37 20", "55 0x14", "55 0b1", "55 0o7", "5_5 20", "55 2_0", "55.0 20", "55 20.0", "55 2e1", "5e1 20", "55 20L", "1,000 20",
		"\u0665 20", "55 \u0662", "\uff15 20", "55 \uff12", "\xff 20", "55 \xff", "55 20\xff", "nil nil", "55 NaN", "55 inf", "55 -inf", "\"55\" 20", "(55 20)", "{55 20}",
		strings.Repeat(" ", 1000), strings.Repeat("-", 1000), strings.Repeat("55 ", 1000), strings.Repeat("55 20 ", 1000),
	}
}

// P10.1: each invalid line as the only one, the first, a middle one and the last, with its end and without it.
func TestParseInvalidLine(t *testing.T) {
	for _, line := range invalidLines() {
		checkInvalid(t, line+"\n", 1)
		checkInvalid(t, line+"\n70 1\n80 2\n", 1)
		checkInvalid(t, "5 1\n"+line+"\n70 2\n80 3\n", 2)
		checkInvalid(t, "5 1\n6 2\n"+line+"\n80 3\n", 3)
		checkInvalid(t, "5 1\n6 2\n7 3\n"+line+"\n", 4)
		checkInvalid(t, line+"\n"+line+"\n", 1)
		checkInvalid(t, "5 1\n"+line+"\n"+line+"\n7 3\n"+line, 2)
		if line != "" {
			checkInvalid(t, line, 1)
			checkInvalid(t, "5 1\n6 2\n"+line, 3)
		}
		for _, s := range []string{line, line + "\n", "5 1\n" + line, "5 1\n" + line + "\n", "\n" + line + "\n"} {
			checkParse(t, s)
		}
	}
}

// P10.1: a line feed that is missing at the end, and those that are too many.
func TestParseLineFeeds(t *testing.T) {
	for _, c := range []struct {
		text   string
		number int
	}{
		{"", 0}, {"5 20\n", 0}, {"5 20\n9 -3\n", 0},
		{"5 20", 1}, {"5 20\n9 -3", 2}, {"5 20\n9 -3\n10 1", 3}, {"5 20\n9 -32768", 2},
		{"5 20\n9", 2}, {"5 20\n9 ", 2}, {"5 20\n9 -", 2}, {"5", 1}, {" ", 1}, {"5 20\n ", 2},
		{"\n", 1}, {"\n\n", 1}, {"\n5 20\n", 1}, {"5 20\n\n", 2}, {"5 20\n\n9 -3\n", 2}, {"5 20\n9 -3\n\n", 3}, {"5 20\n\n\n9 -3\n", 2},
		{"5\n20\n", 1}, {"5 \n20\n", 1}, {"5\n 20\n", 1}, {"5 20 9 -3\n", 1}, {"5 20\r\n9 -3\r\n", 1}, {"5 20\n9 -3\r\n", 2}, {"5 20\r9 -3\r", 1}, {"5 20\n\r9 -3\n", 2},
		{strings.Repeat("\n", 1000), 1}, {"5 20" + strings.Repeat("\n", 1000), 2},
	} {
		if _, number := meaning(c.text); number != c.number {
			t.Errorf("%q: the definition has line %d, want %d", c.text, number, c.number)
		}
		checkParse(t, c.text)
	}
}

// P10.1: a time that is not greater than that of the preceding line, whose number is told.
func TestParseOrder(t *testing.T) {
	for _, c := range []struct {
		text   string
		number int
	}{
		{"5 20\n5 -3\n", 2}, {"5 20\n5 20\n", 2}, {"5 20\n4 -3\n", 2}, {"5 20\n0 -3\n", 2}, {"0 1\n0 2\n", 2}, {"1 1\n0 2\n", 2},
		{"5 1\n5 2\n6 3\n7 4\n", 2}, {"5 1\n4 2\n6 3\n7 4\n", 2}, {"5 1\n6 2\n6 3\n7 4\n", 3}, {"5 1\n6 2\n5 3\n7 4\n", 3}, {"5 1\n6 2\n7 3\n7 4\n", 4}, {"5 1\n6 2\n7 3\n6 4\n", 4},
		{"9 1\n10 2\n100 3\n99 4\n", 4}, {"10 1\n9 2\n", 2}, {"100 1\n20 2\n", 2}, {"5 1\n5 2\nx\n", 2}, {"5 1\nx\n5 2\n", 2}, {"5 1\n5 2", 2}, {"5 1\n6 2\n6 3", 3},
		{"1099511627776 1\n1099511627776 2\n", 2}, {"1099511627776 1\n0 2\n", 2}, {"1099511627776 1\n1099511627777 2\n", 2}, {"1099511627777 1\n1099511627778 2\n", 1},
		{"1099511627775 1\n1099511627776 2\n", 0}, {"9 1\n10 2\n99 3\n100 4\n", 0}, {"0 5\n1 4\n2 3\n3 2\n4 1\n", 0},
	} {
		if _, number := meaning(c.text); number != c.number {
			t.Errorf("%q: the definition has line %d, want %d", c.text, number, c.number)
		}
		checkParse(t, c.text)
	}
	for _, a := range numbers() {
		for _, b := range numbers() {
			checkParse(t, fmt.Sprintf("%d 1\n%d 2\n", a, b))
		}
	}
}

// P10.1, P10.2: every short string of characters that occur in texts or look like it.
func TestParseShort(t *testing.T) {
	list, valid := []string{""}, 0
	for n := range 8 {
		var longer []string
		for _, s := range list {
			if checkParse(t, s) {
				valid++
			}
			if n == 7 {
				continue
			}
			for _, c := range "019 -\n" {
				longer = append(longer, s+string(c))
			}
			if n < 5 {
				longer = append(longer, s+"+", s+"\r", s+"\t")
			}
		}
		list = longer
	}
	if valid < 50 {
		t.Errorf("only %d texts are valid", valid)
	}
}

// P10.1, P10.2: texts with one byte inserted, replaced or left out.
func TestParseNeighbours(t *testing.T) {
	for _, s := range []string{"0 0\n", "5 20\n9 -3\n", "9 -1\n10 1\n11 0\n", "88 32767\n100 -32768\n", "1099511627775 1\n1099511627776 -10\n"} {
		for i := range len(s) + 1 {
			for c := range 256 {
				checkParse(t, s[:i]+string([]byte{byte(c)})+s[i:])
				if i < len(s) {
					checkParse(t, s[:i]+string([]byte{byte(c)})+s[i+1:])
				}
			}
			if i < len(s) {
				checkParse(t, s[:i]+s[i+1:])
				checkParse(t, s[:i])
			}
		}
	}
}

// P10.2: random traces. Parse inverts Format.
func TestParseInvertsFormat(t *testing.T) {
	g := generator(4)
	for range 5000 {
		l := g.changes(40)
		x := trace(t, l...)
		s := x.Format()
		if s != format(l) {
			t.Fatalf("Format of %v = %q", l, s)
		}
		y, number, e := Parse(s)
		if y == nil || number != 0 || e != api.OK {
			t.Fatalf("Parse(%q) = %v, %d, %d", s, y, number, e)
		}
		if !slices.Equal(y.Changes(), l) || y.Format() != s {
			t.Fatalf("%v becomes %v", l, y.Changes())
		}
		checkTimes(t, y, l)
	}
}

// P10.1, P10.2: random texts of lines most of which are valid. Format inverts Parse wherever Parse takes a text.
func TestFormatInvertsParse(t *testing.T) {
	g := generator(5)
	invalid := invalidLines()
	valid, refused := 0, 0
	for range 20000 {
		l := g.changes(20)
		s := format(l)
		for range g.below(3) {
			lines := strings.SplitAfter(s, "\n")
			i, j := g.below(len(lines)), g.below(len(lines))
			switch g.below(6) {
			case 0:
				lines[i] = pick(&g, invalid) + "\n"
			case 1:
				lines[i], lines[j] = lines[j], lines[i]
			case 2:
				lines[i] = lines[j]
			case 3:
				lines[i] = ""
			case 4:
				lines[i] = strings.TrimSuffix(lines[i], "\n")
			case 5:
				lines[i] = fmt.Sprintf("%d %d\n", pick(&g, numbers()), g.value())
			}
			s = strings.Join(lines, "")
		}
		if checkParse(t, s) {
			valid++
		} else {
			refused++
		}
	}
	if valid < 5000 || refused < 5000 {
		t.Errorf("%d texts are valid and %d are not", valid, refused)
	}
}

// P10.1, P10.2: a long text, with one line of it invalid.
func TestParseLong(t *testing.T) {
	const n = 50000
	g := generator(6)
	var text strings.Builder
	var ends []int
	for i := range n {
		fmt.Fprintf(&text, "%d %d\n", i*3, g.value())
		ends = append(ends, text.Len())
	}
	s := text.String()
	checkParse(t, s)
	for range 20 {
		i := g.below(n)
		checkInvalid(t, s[:ends[i]-1]+" "+s[ends[i]-1:], i+1)
		checkInvalid(t, s[:ends[i]]+"0 0\n"+s[ends[i]:], i+2)
		checkInvalid(t, s[:ends[i]-1], i+1)
	}
}
