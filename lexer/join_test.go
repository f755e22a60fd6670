package lexer

import (
	"slices"
	"strings"
	"testing"
)

// checkJoin compares Join with its definition, and checks that it changes nothing.
func checkJoin(t *testing.T, l []Token) string {
	t.Helper()
	before := slices.Clone(l)
	got := Join(l)
	if want := joinOf(l); got != want {
		t.Fatalf("Join(%s) = %q, want %q", quoted(l), got, want)
	}
	if !slices.Equal(l, before) {
		t.Fatalf("Join changed %s to %s", quoted(before), quoted(l))
	}
	return got
}

// P15.1: the examples of the chapter.
func TestExampleJoin(t *testing.T) {
	if got := Join(Scan("x1 = a<=-3;// end")); got != "x1=a<=-3;" {
		t.Errorf("Join returns %q", got)
	}
	if got := Join([]Token{{Keyword, "let", 0, 0}, {Ident, "x", 0, 4}}); got != "let x" {
		t.Errorf("Join returns %q", got)
	}
	if got := Join([]Token{{Punct, "<", 0, 0}, {Punct, "=", 0, 1}}); got != "< =" {
		t.Errorf("Join returns %q", got)
	}
}

// P15.1: texts joined by hand, with spaces where they are needed.
func TestJoinByHand(t *testing.T) {
	long := strings.Repeat("x", 33)
	for _, c := range []struct {
		texts []string
		want  string
	}{
		{nil, ""},
		{[]string{""}, ""},
		{[]string{"", "", ""}, ""},
		{[]string{"a"}, "a"},
		{[]string{"", "a"}, "a"},
		{[]string{"a", ""}, "a"},
		{[]string{"", "", "a", "", "", "b", ""}, "a b"},
		{[]string{"a", "", "="}, "a="},
		{[]string{"=", "", "", "="}, "= ="},
		{[]string{"a", "b"}, "a b"},
		{[]string{"a", "1"}, "a 1"},
		{[]string{"1", "a"}, "1a"},
		{[]string{"1", "2"}, "1 2"},
		{[]string{"1", "if"}, "1if"},
		{[]string{"if", "1"}, "if 1"},
		{[]string{"if", "a"}, "if a"},
		{[]string{"if", "("}, "if("},
		{[]string{"_", "_"}, "_ _"},
		{[]string{"0", "0"}, "0 0"},
		{[]string{"0", "x1"}, "0x1"},
		{[]string{"007", "a"}, "007a"},
		{[]string{"a", "007"}, "a 007"},
		{[]string{long, "a"}, long + " a"},
		{[]string{"1", long}, "1" + long},
		{[]string{long, long}, long + " " + long},
		{[]string{long, "=", long}, long + "=" + long},
		{[]string{"=", "="}, "= ="},
		{[]string{"=", "=="}, "= =="},
		{[]string{"==", "="}, "==="},
		{[]string{"==", "=="}, "===="},
		{[]string{"=", "=", "="}, "= = ="},
		{[]string{"==", "=", "="}, "=== ="},
		{[]string{"=", "==", "="}, "= ==="},
		{[]string{"!", "="}, "! ="},
		{[]string{"!", "=="}, "! =="},
		{[]string{"!=", "="}, "!=="},
		{[]string{"=", "!="}, "=!="},
		{[]string{"<", "="}, "< ="},
		{[]string{"<", "-"}, "<-"},
		{[]string{">", "=="}, "> =="},
		{[]string{">", "<"}, "><"},
		{[]string{"!", "!"}, "!!"},
		{[]string{"-", "-"}, "--"},
		{[]string{"/", "/"}, "/ /"},
		{[]string{"/", "/", "/"}, "/ / /"},
		{[]string{"*", "/"}, "*/"},
		{[]string{"/", "*"}, "/*"},
		{[]string{"&", "&"}, "& &"},
		{[]string{"&", "&&"}, "& &&"},
		{[]string{"&&", "&"}, "&&&"},
		{[]string{"&&", "&&"}, "&&&&"},
		{[]string{"|", "|"}, "| |"},
		{[]string{"||", "|"}, "|||"},
		{[]string{"|", "||"}, "| ||"},
		{[]string{"&", "|"}, "&|"},
		{[]string{"&", "a", "&"}, "&a&"},
		{[]string{"#", "#"}, "##"},
		{[]string{"#", "a"}, "#a"},
		{[]string{"a", "#", "1"}, "a#1"},
		{[]string{"\xc3", "\xa9"}, "\xc3\xa9"},
		{[]string{"\x00", "\v"}, "\x00\v"},
		// Texts that are no tokens.
		{[]string{"é", "a"}, "é a"},
		{[]string{"a", "é"}, "a é"},
		{[]string{" "}, " "},
		{[]string{"\n", "\t"}, "\n \t"},
		{[]string{"a", " "}, "a  "},
		{[]string{" ", "a"}, "  a"},
		{[]string{"a b", "c"}, "a b c"},
		{[]string{"a b", "="}, "a b ="},
		{[]string{"=", "a b"}, "= a b"},
		{[]string{"a ", "b"}, "a  b"},
		{[]string{"a", " b"}, "a  b"},
		{[]string{"a\n", "="}, "a\n ="},
		{[]string{"//", "a"}, "// a"},
		{[]string{"a", "//"}, "a //"},
		{[]string{"a", "//\n"}, "a //\n"},
		{[]string{"//x\n", "="}, "//x\n ="},
		{[]string{"/", "/a"}, "/ /a"},
		{[]string{"/", "//"}, "/ //"},
		{[]string{"==="}, "==="},
		{[]string{"===", "a"}, "=== a"},
		{[]string{"a", "==="}, "a ==="},
		{[]string{"1a"}, "1a"},
		{[]string{"1a", "b"}, "1a b"},
		{[]string{"1", "a1a"}, "1a1a"},
		{[]string{"(", "1a"}, "( 1a"},
		{[]string{"=-", "1"}, "=- 1"},
		{[]string{"<=", "=="}, "<==="},
		{[]string{"<", "==="}, "< ==="},
	} {
		if got := checkJoin(t, withTexts(c.texts...)); got != c.want {
			t.Errorf("the texts %q are joined as %q, want %q", c.texts, got, c.want)
		}
	}
}

// someTexts are texts of each kind of token, and texts that are no tokens.
func someTexts() []string {
	l := append(strings.Fields(allMarks), strings.Fields(allKeywords)...)
	l = append(l, "a", "_", "Z9", "x1", "iff", "e", "elsee", "IF", "s", "nd", strings.Repeat("y", 32), strings.Repeat("y", 33), "_"+strings.Repeat("0", 40))
	l = append(l, "0", "1", "9", "10", "32767", "32768", "00", "01", "007", "99999999999999999999")
	l = append(l, "&", "|", "#", ".", "\"", "\x00", "\v", "\f", "\x7f", "\x80", "\xc3", "\xa9", "\xff", "\x85", "\xa0")
	return append(l, "", " ", "\t", "\n", "\r", "  ", "a b", " a", "a ", "a\n", "1 ", "\n1", "(\t", "é", "\u00a0", "//", "//a", "//\n", "//a\nb", "a//", "a//b", "/a", "/=", "a/", "(/", "///",
		"===", "&&&", "=&", "&=", "1a", "0x1", "a-", "-1", "a=b", "((", "()", "<>", "\n/", "#a", "a#", "#//")
}

// P15.1: each pair of texts, and each with an empty text ahead, between and behind.
func TestJoinPairs(t *testing.T) {
	all := someTexts()
	for _, a := range all {
		checkJoin(t, withTexts(a))
		for _, b := range all {
			pair := checkJoin(t, withTexts(a, b))
			for _, l := range [][]string{{"", a, b}, {a, "", b}, {a, b, ""}, {"", "", a, "", "", b, "", ""}} {
				if got := checkJoin(t, withTexts(l...)); got != pair {
					t.Fatalf("the texts %q are joined as %q, but %q as %q", l, got, []string{a, b}, pair)
				}
			}
		}
	}
}

// P15.1: each triple of marks and of some other texts.
func TestJoinTriples(t *testing.T) {
	all := append(strings.Fields(allMarks), "&", "|", "a", "if", "1", "00", "#", " ", "", "//", "a b")
	for _, a := range all {
		for _, b := range all {
			for _, c := range all {
				checkJoin(t, withTexts(a, b, c))
			}
		}
	}
}

// P15.1: each pair of texts of one or two bytes out of those that matter.
func TestJoinShortTexts(t *testing.T) {
	var all []string
	each("a0=/ \n&#", 2, func(text string) { all = append(all, text) })
	for _, a := range all {
		for _, b := range all {
			checkJoin(t, withTexts(a, b))
		}
	}
}

// P15.1: only the texts of tokens matter.
func TestJoinOfAnyKind(t *testing.T) {
	g := generator(5)
	for range 5000 {
		var texts []string
		var l []Token
		for range g.below(10) {
			text := pick(&g, someTexts())
			texts = append(texts, text)
			l = append(l, Token{pick(&g, []int{0, 1, 2, 3, 4, 5, -1, 6, 1 << 40}), text, int16(g.below(65536)), g.below(2000) - 1000})
		}
		if got, want := checkJoin(t, l), Join(withTexts(texts...)); got != want {
			t.Fatalf("Join(%s) = %q, want %q", quoted(l), got, want)
		}
	}
	if got := Join([]Token{{EOF, "a", 0, 0}, {Ident, "", 0, 0}, {EOF, "b", 0, 0}, {Punct, "", 0, 0}}); got != "a b" {
		t.Errorf("Join returns %q", got)
	}
}

// P15.1: random texts as tokens.
func TestJoinAtRandom(t *testing.T) {
	g := generator(6)
	for range 20000 {
		var texts []string
		for range g.below(8) {
			texts = append(texts, pick(&g, []string{g.fragment(), g.source(3), "", "="}))
		}
		checkJoin(t, withTexts(texts...))
	}
}

// checkAgain checks that what Join makes of the tokens of a text has the same tokens, and no space too many.
func checkAgain(t *testing.T, src string) {
	t.Helper()
	l := Scan(src)
	joined := checkJoin(t, l)
	if again := Scan(joined); !slices.Equal(withoutPos(again), withoutPos(l)) {
		t.Fatalf("%q has the tokens %s, joined as %q it has %s", src, quoted(l), joined, quoted(again))
	}
	if len(joined) > len(src) {
		t.Fatalf("%q is joined as %q", src, joined)
	}
	for i := range len(joined) {
		if joined[i] != ' ' {
			continue
		}
		if less := joined[:i] + joined[i+1:]; slices.Equal(withoutPos(Scan(less)), withoutPos(l)) {
			t.Fatalf("%q is joined as %q, but %q has the same tokens", src, joined, less)
		}
	}
	if twice := Join(Scan(joined)); twice != joined {
		t.Fatalf("%q is joined as %q, which is joined as %q", src, joined, twice)
	}
}

// P15.2: all short texts.
func TestAgainShortTexts(t *testing.T) {
	checkAgain(t, "")
	each("a0/= \n", 5, func(src string) { checkAgain(t, src) })
	each("a1/\n&|=<! ", 4, func(src string) { checkAgain(t, src) })
}

// P15.2: each triple of texts, with white space between them and without it.
func TestAgainTriples(t *testing.T) {
	all := append(strings.Fields(allMarks), "&", "|", "a", "if", "1", "00", "#", "\xff", strings.Repeat("x", 33))
	for _, a := range all {
		for _, b := range all {
			for _, c := range all {
				checkAgain(t, a+"\n"+b+"\n"+c)
				checkAgain(t, a+b+c)
			}
		}
	}
}

// P15.2: random texts.
func TestAgainAtRandom(t *testing.T) {
	g := generator(7)
	for range 10000 {
		checkAgain(t, g.source(pick(&g, []int{3, 8, 30})))
	}
}

// P15.1, P15.2: many tokens, and tokens with long texts.
func TestJoinLong(t *testing.T) {
	const n = 1 << 17
	for _, c := range []struct{ src, want string }{
		{strings.Repeat("a ", n), strings.Repeat("a ", n-1) + "a"},
		{strings.Repeat("a\n=//x\n", n), strings.Repeat("a=", n)},
		{strings.Repeat("= ", n), strings.Repeat("= ", n-1) + "="},
		{strings.Repeat("\xff\r", n), strings.Repeat("\xff", n)},
		{strings.Repeat("x", n) + "\t" + strings.Repeat("7", n) + " " + strings.Repeat("y", n), strings.Repeat("x", n) + " " + strings.Repeat("7", n) + strings.Repeat("y", n)},
	} {
		if got := Join(Scan(c.src)); got != c.want {
			t.Errorf("%.10q... is joined as %.10q...", c.src, got)
		}
	}
	parens := strings.Repeat("(", n)
	if got := Join(withTexts(parens, "a", parens)); got != parens+" a "+parens {
		t.Errorf("Join returns %.10q...", got)
	}
}
