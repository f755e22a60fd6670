package powertrace

import (
	"fmt"
	"math/big"
	"regexp"
	"slices"
	"strings"
	"testing"

	"trickle/api"
)

// format is the definition of Format for valid schedules.
func format(l []api.Period) string {
	var words []string
	for _, p := range l {
		words = append(words, fmt.Sprintf("%d@%d", p.Energy, p.Off))
	}
	return strings.Join(words, " ")
}

// form matches a word: two numbers without signs and leading zeros.
var form = regexp.MustCompile(`\A(0|[1-9][0-9]*)@(0|[1-9][0-9]*)\z`)

// within returns the number with a text, and whether it is from lo to hi. Numbers of any size are exact.
func within(s string, lo, hi int64) (int64, bool) {
	n, _ := new(big.Int).SetString(s, 10)
	return n.Int64(), n.Cmp(big.NewInt(lo)) >= 0 && n.Cmp(big.NewInt(hi)) <= 0
}

// meaning is the definition of Parse: the schedule with a text, or the number of the first invalid word.
func meaning(s string) ([]api.Period, int) {
	if s == "" {
		return nil, 0
	}
	var l []api.Period
	for i, word := range strings.Split(s, " ") {
		parts := form.FindStringSubmatch(word)
		if parts == nil {
			return nil, i + 1
		}
		energy, energyOK := within(parts[1], 0, 1<<30)
		off, offOK := within(parts[2], 1, 1<<40)
		if !energyOK || !offOK {
			return nil, i + 1
		}
		l = append(l, api.Period{Energy: int(energy), Off: off})
	}
	return l, 0
}

// checkParse compares Parse of any text with the definition, and Format with the text.
func checkParse(t *testing.T, s string) (valid bool) {
	t.Helper()
	want, number := meaning(s)
	if number > 0 {
		checkInvalid(t, s, number)
		return false
	}
	l, got, e := Parse(s)
	if got != 0 || e != api.OK || !slices.Equal(l, want) {
		t.Fatalf("Parse(%q) = %v, %d, %d, want %v", s, l, got, e, want)
	}
	if again := Format(l); again != s {
		t.Fatalf("Parse(%q) has the format %q", s, again)
	}
	return true
}

// checkInvalid tests that the first invalid word of a text is the one with a number.
func checkInvalid(t *testing.T, s string, number int) {
	t.Helper()
	if l, got, e := Parse(s); len(l) != 0 || got != number || e != api.ErrSyntax {
		t.Fatalf("Parse(%q) = %v, %d, %d, want word %d", s, l, got, e, number)
	}
}

// invalidWords returns words that are invalid wherever they stand.
func invalidWords() []string {
	digits, zeros := strings.Repeat("9", 1000), strings.Repeat("0", 1000)
	return []string{
		// Missing and other parts.
		"", "@", "40", "0", "40@", "0@", "@5", "@0", "@@", "40@@5", "@40@5", "40@5@", "@40@", "40@5@6", "40@5@6@7", "40@@", "@@5", "405", "40100", "-", "-@-", "40@-", "-@5",
		"40,5", "40:5", "40-5", "40;5", "40/5", "40\uff205", "40at5", "40@5,", "40@5;", "40@5.", "(40@5)", "{40@5}", "\"40@5\"", "40\\@5", "40@5#",
		// Other white space, which separates no words.
		"\t", "\n", "40@5\t", "\t40@5", "40\t@5", "40@\t5", "40@5\n", "\n40@5", "40@5\r", "40@5\r\n", "40@5\t0@5", "40@5\n0@5", "40@5\u00a00@5", "40@5\u20030@5", "40@5\v", "40@5\f", "40@5\u0085", "40@5\u2028", "\ufeff40@5",
		// Other bytes.
		"\x00", "40@5\x00", "\x0040@5", "40\x00@5", "40@\x005", "\xff", "40@5\xff", "\xff40@5", "40\xff@5", "40@\xff5", "\xc0\x80", "\u0664\u0660@\u0665", "\uff14\uff10@5", "40@\uff15", "40@\u0665", "\u00b2@5", "40@\u00b2",
		// Leading zeros.
		"040@5", "00@5", "0040@5", zeros + "@5", zeros + "40@5", "40@05", "40@005", "40@" + zeros + "5", "00@05", "01@1", "1@01",
		// Signs.
		"+40@5", "+0@5", "40@+5", "+40@+5", "+@5", "40@+", "-40@5", "-0@5", "-1@5", "--40@5", "40@-5", "40@-0", "40@-1", "-40@-5", "40-@5", "40@5-", "40+@5", "40@5+", "+-40@5", "-+40@5", "40@--5", "\u221240@5", "40@\u22125",
		"-1073741824@5", "-9223372036854775808@5", "-9223372036854775809@5", "-" + digits + "@5", "40@-1099511627776", "40@-9223372036854775808", "40@-9223372036854775809", "40@-" + digits,
		// Numbers beyond their ranges, and those that are in range modulo a power of two.
		"40@0", "0@0", "1073741824@0", "40@00", "40@" + zeros,
		"1073741825@5", "1073741826@5", "1999999999@5", "2147483647@5", "2147483648@5", "4294967295@5", "4294967296@5", "4294967336@5", "10737418240@5", "1099511627776@5", "9223372036854775807@5", "9223372036854775808@5",
		"18446744073709551615@5", "18446744073709551616@5", "18446744073709551656@5", "340282366920938463463374607431768211496@5", digits + "@5",
		"40@1099511627777", "40@1099511627778", "40@1999999999999", "40@2199023255552", "40@2199023255557", "40@10995116277760", "40@9223372036854775807", "40@9223372036854775808", "40@18446744073709551615", "40@18446744073709551616",
		"40@18446744073709551621", "40@340282366920938463463374607431768211461", "40@" + digits, digits + "@" + digits, "1073741825@1099511627777", "1073741825@0",
		// Other ways to write numbers.
		"a@5", "40@a", "x", "40a@5", "a40@5", "40@5a", "40@a5", "0x28@5", "40@0x5", "0b1@5", "40@0b1", "0o7@5", "40@0o7", "4_0@5", "40@1_0", "40.0@5", "40@5.0", "4e1@5", "40@1e1", "40L@5", "1,000@5", "40@1,000", "nil@nil", "NaN@5", "40@inf", "40.@5", "40@.5",
		"@" + digits, digits + "@", digits, zeros, strings.Repeat("@", 1000), strings.Repeat("-", 1000), strings.Repeat("40@5@", 1000), strings.Repeat("40@5\t", 1000),
	}
}

// P13.1: each invalid word as the only one, the first, a middle one and the last.
func TestParseInvalidWord(t *testing.T) {
	for _, word := range invalidWords() {
		if word != "" {
			checkInvalid(t, word, 1)
		}
		checkInvalid(t, word+" 70@1 80@2", 1)
		checkInvalid(t, "5@1 "+word+" 70@2 80@3", 2)
		checkInvalid(t, "5@1 6@2 "+word+" 80@3", 3)
		checkInvalid(t, "5@1 6@2 7@3 "+word, 4)
		checkInvalid(t, word+" "+word, 1)
		checkInvalid(t, "5@1 "+word+" 6@2 "+word, 2)
		checkInvalid(t, "5@1 "+word+" "+word+" 7@3", 2)
		for _, s := range []string{word, word + " ", " " + word, "5@1 " + word + " ", "0@1073741824 " + word} {
			checkParse(t, s)
		}
	}
}

// P13.1: spaces at the start, at the end, and too many in between.
func TestParseSpaces(t *testing.T) {
	for _, c := range []struct {
		text   string
		number int
	}{
		{"", 0}, {"40@100", 0}, {"40@100 0@5", 0}, {"40@100 0@5 1@1", 0},
		{" ", 1}, {"  ", 1}, {"   ", 1}, {" 40@100", 1}, {"  40@100", 1}, {" 40@100 0@5", 1}, {" 40@100 ", 1}, {" x", 1},
		{"40@100 ", 2}, {"40@100  ", 2}, {"40@100  0@5", 2}, {"40@100   0@5", 2}, {"40@100  0@5 ", 2}, {"40@100  x", 2}, {"40@100 x ", 2},
		{"40@100 0@5 ", 3}, {"40@100 0@5  ", 3}, {"40@100 0@5  1@1", 3}, {"40@100 0@5 1@1 ", 4}, {"40@100 0@5 1@1  2@2", 4},
		{"40 @100", 1}, {"40@ 100", 1}, {"40 @ 100", 1}, {"4 0@100", 1}, {"40@100 0 @5", 2}, {"40@100 0@ 5", 2}, {"40@1 00 0@5", 2}, {"40 100", 1}, {"40@100 5", 2},
		{"x", 1}, {"x 40@100", 1}, {"40@100 x", 2}, {"40@100 x y", 2}, {"x y", 1}, {"40@0 0@5", 1}, {"40@100 0@0", 2}, {"1073741825@100 0@5", 1}, {"40@100 0@1099511627777", 2},
		{strings.Repeat(" ", 1000), 1}, {"40@100" + strings.Repeat(" ", 1000), 2},
	} {
		if _, number := meaning(c.text); number != c.number {
			t.Errorf("%q: the definition has word %d, want %d", c.text, number, c.number)
		}
		checkParse(t, c.text)
	}
}

// P13.1: every pair of edge numbers as a word at the first, the middle and the last place.
func TestParseEdges(t *testing.T) {
	words := []string{"0@1", "1073741824@1099511627776"}
	for _, p := range invalidPeriods() {
		words = append(words, fmt.Sprintf("%d@%d", p.Energy, p.Off))
	}
	for _, energy := range validEnergies() {
		for _, off := range validOffs() {
			words = append(words, fmt.Sprintf("%d@%d", energy, off))
		}
	}
	valid := 0
	for _, w := range words {
		if checkParse(t, w) {
			valid++
		}
		checkParse(t, w+" 3@4 5@6")
		checkParse(t, "1@2 "+w+" 5@6")
		checkParse(t, "1@2 3@4 "+w)
	}
	if want := 2 + len(validEnergies())*len(validOffs()); valid != want {
		t.Errorf("%d words are valid, want %d", valid, want)
	}
}

// P13.1: every short string of characters that occur in texts or look like it.
func TestParseShort(t *testing.T) {
	list, valid := []string{""}, 0
	for n := range 8 {
		var longer []string
		for _, s := range list {
			if checkParse(t, s) {
				valid++
			}
			if n == 7 {
				continue
			}
			for _, c := range "019@ " {
				longer = append(longer, s+string(c))
			}
			if n < 5 {
				longer = append(longer, s+"+", s+"-", s+"\n")
			}
		}
		list = longer
	}
	if valid < 50 {
		t.Errorf("only %d texts are valid", valid)
	}
}

// P13.1: texts with one byte inserted, replaced or left out, and their first and last bytes.
func TestParseNeighbours(t *testing.T) {
	for _, s := range []string{"0@1", "40@100 0@5", "9@10 10@9 99@100", "1073741824@1099511627776 0@1", "1@1 1073741823@1099511627775"} {
		for i := range len(s) + 1 {
			for c := range 256 {
				checkParse(t, s[:i]+string([]byte{byte(c)})+s[i:])
				if i < len(s) {
					checkParse(t, s[:i]+string([]byte{byte(c)})+s[i+1:])
				}
			}
			if i < len(s) {
				checkParse(t, s[:i]+s[i+1:])
			}
			checkParse(t, s[:i])
			checkParse(t, s[i:])
		}
	}
}

// P13.1: random schedules. Parse inverts Format.
func TestParseInvertsFormat(t *testing.T) {
	g := generator(3)
	for range 5000 {
		l := g.schedule(40)
		s := format(l)
		checkValid(t, l, s)
		again, number, e := Parse(Format(l))
		if number != 0 || e != api.OK || !slices.Equal(again, l) {
			t.Fatalf("%v becomes %v, %d, %d", l, again, number, e)
		}
		checkParse(t, s)
	}
}

// P13.1: random texts of words most of which are valid. Format inverts Parse wherever Parse takes a text.
func TestFormatInvertsParse(t *testing.T) {
	g := generator(4)
	invalid := invalidWords()
	valid, refused := 0, 0
	for range 20000 {
		words := strings.Split(format(g.schedule(20)), " ")
		for range g.below(3) {
			i, j := g.below(len(words)), g.below(len(words))
			switch g.below(6) {
			case 0:
				words[i] = pick(&g, invalid)
			case 1:
				words[i], words[j] = words[j], words[i]
			case 2:
				words[i] = words[j]
			case 3:
				words = slices.Delete(words, i, i+1)
				if len(words) == 0 {
					words = []string{""}
				}
			case 4:
				words[i] += " "
			case 5:
				words = append(words, fmt.Sprintf("%d@%d", pick(&g, validEnergies()), pick(&g, validOffs())))
			}
		}
		if checkParse(t, strings.Join(words, " ")) {
			valid++
		} else {
			refused++
		}
	}
	if valid < 5000 || refused < 5000 {
		t.Errorf("%d texts are valid and %d are not", valid, refused)
	}
}

// P13.1: a long text, with one word of it invalid.
func TestParseLong(t *testing.T) {
	const n = 50000
	g := generator(5)
	var words []string
	for range n {
		p := g.period()
		words = append(words, fmt.Sprintf("%d@%d", p.Energy, p.Off))
	}
	checkParse(t, strings.Join(words, " "))
	for _, i := range []int{0, 1, g.below(n), g.below(n), n - 2, n - 1} {
		for _, word := range []string{"", "40@0", "0" + words[i], words[i] + "@", words[i] + "\n"} {
			changed := slices.Clone(words)
			changed[i] = word
			checkInvalid(t, strings.Join(changed, " "), i+1)
		}
	}
}

// P13.1: what Parse returns is new memory each time.
func TestParseMemory(t *testing.T) {
	const text = "40@100 0@5 7@9"
	want := []api.Period{{Energy: 40, Off: 100}, {Energy: 0, Off: 5}, {Energy: 7, Off: 9}}
	first, _, _ := Parse(text)
	second, _, _ := Parse(text)
	_ = append(first[:1], api.Period{Energy: 66, Off: 66})
	for i := range first {
		first[i] = api.Period{Energy: -1, Off: -1}
	}
	_ = append(first, api.Period{Energy: 77, Off: 77})
	if !slices.Equal(second, want) {
		t.Errorf("another result is %v", second)
	}
	if third, _, _ := Parse(text); !slices.Equal(third, want) {
		t.Errorf("a later result is %v", third)
	}
}
