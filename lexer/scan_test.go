package lexer

import (
	"regexp"
	"slices"
	"strconv"
	"strings"
	"testing"
)

// P15.1: the example of the chapter.
func TestExampleScan(t *testing.T) {
	same(t, "x1 = a<=-3;// end", []Token{
		{Ident, "x1", 0, 0}, {Punct, "=", 0, 3}, {Ident, "a", 0, 5}, {Punct, "<=", 0, 6}, {Punct, "-", 0, 8}, {Int, "3", 3, 9},
		{Punct, ";", 0, 10}, {EOF, "", 0, 17},
	})
}

// P15.1: the numbers of the kinds.
func TestKinds(t *testing.T) {
	if kinds := [...]int{EOF, Ident, Int, Keyword, Punct, Invalid}; kinds != [...]int{0, 1, 2, 3, 4, 5} {
		t.Errorf("the kinds are %v", kinds)
	}
}

// P15.1: tokens written by hand.
func TestScanByHand(t *testing.T) {
	for _, c := range []struct {
		src  string
		want []Token
	}{
		{"", []Token{{EOF, "", 0, 0}}},
		{" ", []Token{{EOF, "", 0, 1}}},
		{" \t\r\n ", []Token{{EOF, "", 0, 5}}},
		{"//", []Token{{EOF, "", 0, 2}}},
		{"//\n", []Token{{EOF, "", 0, 3}}},
		{"/", []Token{{Punct, "/", 0, 0}, {EOF, "", 0, 1}}},
		{"a", []Token{{Ident, "a", 0, 0}, {EOF, "", 0, 1}}},
		{"a\n", []Token{{Ident, "a", 0, 0}, {EOF, "", 0, 2}}},
		{"a//", []Token{{Ident, "a", 0, 0}, {EOF, "", 0, 3}}},
		{"a//b\nc", []Token{{Ident, "a", 0, 0}, {Ident, "c", 0, 5}, {EOF, "", 0, 6}}},
		{"a///b\n/c", []Token{{Ident, "a", 0, 0}, {Punct, "/", 0, 6}, {Ident, "c", 0, 7}, {EOF, "", 0, 8}}},
		{"a/b", []Token{{Ident, "a", 0, 0}, {Punct, "/", 0, 1}, {Ident, "b", 0, 2}, {EOF, "", 0, 3}}},
		{"a/ /b", []Token{{Ident, "a", 0, 0}, {Punct, "/", 0, 1}, {Punct, "/", 0, 3}, {Ident, "b", 0, 4}, {EOF, "", 0, 5}}},
		{"/*a*/", []Token{{Punct, "/", 0, 0}, {Punct, "*", 0, 1}, {Ident, "a", 0, 2}, {Punct, "*", 0, 3}, {Punct, "/", 0, 4}, {EOF, "", 0, 5}}},
		{"//a\r//b\n7", []Token{{Int, "7", 7, 8}, {EOF, "", 0, 9}}},
		{"//a\n//b\n\n//c", []Token{{EOF, "", 0, 12}}},
		{"let x1=32767;", []Token{{Keyword, "let", 0, 0}, {Ident, "x1", 0, 4}, {Punct, "=", 0, 6}, {Int, "32767", 32767, 7}, {Punct, ";", 0, 12}, {EOF, "", 0, 13}}},
		{"12ab", []Token{{Int, "12", 12, 0}, {Ident, "ab", 0, 2}, {EOF, "", 0, 4}}},
		{"0x10", []Token{{Int, "0", 0, 0}, {Ident, "x10", 0, 1}, {EOF, "", 0, 4}}},
		{"1_000", []Token{{Int, "1", 1, 0}, {Ident, "_000", 0, 1}, {EOF, "", 0, 5}}},
		{"3if", []Token{{Int, "3", 3, 0}, {Keyword, "if", 0, 1}, {EOF, "", 0, 3}}},
		{"007let", []Token{{Invalid, "007", 0, 0}, {Keyword, "let", 0, 3}, {EOF, "", 0, 6}}},
		{"1.5", []Token{{Int, "1", 1, 0}, {Invalid, ".", 0, 1}, {Int, "5", 5, 2}, {EOF, "", 0, 3}}},
		{"-32768", []Token{{Punct, "-", 0, 0}, {Invalid, "32768", 0, 1}, {EOF, "", 0, 6}}},
		{"-1", []Token{{Punct, "-", 0, 0}, {Int, "1", 1, 1}, {EOF, "", 0, 2}}},
		{"+1", []Token{{Punct, "+", 0, 0}, {Int, "1", 1, 1}, {EOF, "", 0, 2}}},
		{"===", []Token{{Punct, "==", 0, 0}, {Punct, "=", 0, 2}, {EOF, "", 0, 3}}},
		{"<==", []Token{{Punct, "<=", 0, 0}, {Punct, "=", 0, 2}, {EOF, "", 0, 3}}},
		{"!==", []Token{{Punct, "!=", 0, 0}, {Punct, "=", 0, 2}, {EOF, "", 0, 3}}},
		{"=!=", []Token{{Punct, "=", 0, 0}, {Punct, "!=", 0, 1}, {EOF, "", 0, 3}}},
		{"=<", []Token{{Punct, "=", 0, 0}, {Punct, "<", 0, 1}, {EOF, "", 0, 2}}},
		{"<<>>", []Token{{Punct, "<", 0, 0}, {Punct, "<", 0, 1}, {Punct, ">", 0, 2}, {Punct, ">", 0, 3}, {EOF, "", 0, 4}}},
		{"&", []Token{{Invalid, "&", 0, 0}, {EOF, "", 0, 1}}},
		{"|", []Token{{Invalid, "|", 0, 0}, {EOF, "", 0, 1}}},
		{"& &", []Token{{Invalid, "&", 0, 0}, {Invalid, "&", 0, 2}, {EOF, "", 0, 3}}},
		{"&&&", []Token{{Punct, "&&", 0, 0}, {Invalid, "&", 0, 2}, {EOF, "", 0, 3}}},
		{"|||", []Token{{Punct, "||", 0, 0}, {Invalid, "|", 0, 2}, {EOF, "", 0, 3}}},
		{"&|&", []Token{{Invalid, "&", 0, 0}, {Invalid, "|", 0, 1}, {Invalid, "&", 0, 2}, {EOF, "", 0, 3}}},
		{"&=", []Token{{Invalid, "&", 0, 0}, {Punct, "=", 0, 1}, {EOF, "", 0, 2}}},
		{"a\vb", []Token{{Ident, "a", 0, 0}, {Invalid, "\v", 0, 1}, {Ident, "b", 0, 2}, {EOF, "", 0, 3}}},
		{"é", []Token{{Invalid, "\xc3", 0, 0}, {Invalid, "\xa9", 0, 1}, {EOF, "", 0, 2}}},
		{"aé1", []Token{{Ident, "a", 0, 0}, {Invalid, "\xc3", 0, 1}, {Invalid, "\xa9", 0, 2}, {Int, "1", 1, 3}, {EOF, "", 0, 4}}},
		{"\"x\"", []Token{{Invalid, "\"", 0, 0}, {Ident, "x", 0, 1}, {Invalid, "\"", 0, 2}, {EOF, "", 0, 3}}},
		{"a.b", []Token{{Ident, "a", 0, 0}, {Invalid, ".", 0, 1}, {Ident, "b", 0, 2}, {EOF, "", 0, 3}}},
		{"x[i]", []Token{{Ident, "x", 0, 0}, {Punct, "[", 0, 1}, {Ident, "i", 0, 2}, {Punct, "]", 0, 3}, {EOF, "", 0, 4}}},
		{"IF", []Token{{Ident, "IF", 0, 0}, {EOF, "", 0, 2}}},
	} {
		same(t, c.src, c.want)
		compare(t, c.src)
	}
}

// P15.1: a whole program.
func TestScanProgram(t *testing.T) {
	const src = `
// A node that watches a temperature.
const LIMIT = 30;
sensor temp; // in degrees
channel hot[4];
task sample every 100 deadline 50 {
	fresh 40 {
		let t = read(temp);
		if t>LIMIT&&!(t==-1||hist[count%8]>=t) { send hot t; } else { return; }
	}
}
`
	const want = "const LIMIT = 30 ; sensor temp ; channel hot [ 4 ] ; task sample every 100 deadline 50 { fresh 40 { let t = read ( temp ) ; " +
		"if t > LIMIT && ! ( t == - 1 || hist [ count % 8 ] >= t ) { send hot t ; } else { return ; } } }"
	var texts []string
	l := Scan(src)
	for _, x := range l[:len(l)-1] {
		texts = append(texts, x.Text)
		if !strings.HasPrefix(src[x.Pos:], x.Text) {
			t.Errorf("%q is not at %d", x.Text, x.Pos)
		}
		if x.Kind == Invalid {
			t.Errorf("%q is invalid", x.Text)
		}
	}
	if got := strings.Join(texts, " "); got != want {
		t.Errorf("the tokens are %s", got)
	}
	if end := l[len(l)-1]; end != (Token{EOF, "", 0, len(src)}) {
		t.Errorf("the last token is %v", end)
	}
	compare(t, src)
}

// P15.1: the four bytes of white space, alone, repeated and around a token, and no other byte.
func TestWhiteSpace(t *testing.T) {
	for b := range 256 {
		s := string([]byte{byte(b)})
		white := b == 32 || b == 9 || b == 10 || b == 13
		for _, n := range []int{1, 2, 3, 100} {
			l := Scan(strings.Repeat(s, n))
			if skipped := len(l) == 1 && l[0] == (Token{EOF, "", 0, n}); skipped != white && !strings.HasPrefix(strings.Repeat(s, n), "//") {
				t.Errorf("%q: skipped: %t", strings.Repeat(s, n), skipped)
			}
		}
		if white {
			same(t, s+"("+s+s+")"+s, []Token{{Punct, "(", 0, 1}, {Punct, ")", 0, 4}, {EOF, "", 0, 6}})
			same(t, "a"+s+"b"+s+"1"+s+"2"+s+"="+s+"=", []Token{
				{Ident, "a", 0, 0}, {Ident, "b", 0, 2}, {Int, "1", 1, 4}, {Int, "2", 2, 6}, {Punct, "=", 0, 8}, {Punct, "=", 0, 10}, {EOF, "", 0, 11},
			})
		}
	}
	for _, src := range []string{"\v", "\f", "\x00", "\x85", "\xa0", "\u0085", "\u00a0", "\u1680", "\u2003", "\u2028", "\u3000", "\ufeff", "\b", "\x1f", "\x7f", "\x80"} {
		var want []Token
		for i := range len(src) {
			want = append(want, Token{Invalid, src[i : i+1], 0, i})
		}
		same(t, src, append(want, Token{EOF, "", 0, len(src)}))
		same(t, " "+src[:1]+"\n", []Token{{Invalid, src[:1], 0, 1}, {EOF, "", 0, 3}})
	}
}

// P15.1: comments of every kind, with nothing, a token or white space ahead of them.
func TestComments(t *testing.T) {
	insides := []string{"", "/", "//", "///", "a", " let x = 1;", "\r", "\t", "\v", "\x00", "\xff", "é", "*/", "/* */", "\"", "\\", "\u2028", strings.Repeat("x", 5000)}
	for b := range 256 {
		if b != 10 {
			insides = append(insides, string([]byte{byte(b)}), "a"+string([]byte{byte(b)})+"1")
		}
	}
	for _, inside := range insides {
		comment := "//" + inside
		n := len(comment)
		same(t, comment, []Token{{EOF, "", 0, n}})
		same(t, comment+"\n", []Token{{EOF, "", 0, n + 1}})
		same(t, comment+"\n"+comment, []Token{{EOF, "", 0, 2*n + 1}})
		same(t, " \n\t"+comment+"\n\n "+comment+"\n", []Token{{EOF, "", 0, 2*n + 7}})
		same(t, comment+"\nx", []Token{{Ident, "x", 0, n + 1}, {EOF, "", 0, n + 2}})
		same(t, comment+"\n/", []Token{{Punct, "/", 0, n + 1}, {EOF, "", 0, n + 2}})
		for _, x := range []Token{{Ident, "x", 0, 0}, {Int, "12", 12, 0}, {Keyword, "if", 0, 0}, {Punct, "<=", 0, 0}, {Punct, "*", 0, 0}, {Invalid, "007", 0, 0}, {Invalid, "#", 0, 0}, {Invalid, "&", 0, 0}} {
			at := len(x.Text) + n
			same(t, x.Text+comment, []Token{x, {EOF, "", 0, at}})
			same(t, x.Text+comment+"\n;", []Token{x, {Punct, ";", 0, at + 1}, {EOF, "", 0, at + 2}})
		}
		compare(t, "/ "+comment+"\n/"+comment+"\n/\n"+comment)
	}
}

// P15.1: each keyword, and the words that differ from it in one byte.
func TestKeywordTokens(t *testing.T) {
	all := strings.Fields(allKeywords)
	ident := func(text string) {
		t.Helper()
		if !slices.Contains(all, text) {
			same(t, text, []Token{{Ident, text, 0, 0}, {EOF, "", 0, len(text)}})
		}
	}
	for _, k := range all {
		n := len(k)
		same(t, k, []Token{{Keyword, k, 0, 0}, {EOF, "", 0, n}})
		same(t, "("+k+")", []Token{{Punct, "(", 0, 0}, {Keyword, k, 0, 1}, {Punct, ")", 0, n + 1}, {EOF, "", 0, n + 2}})
		same(t, k+" "+k+"//"+k, []Token{{Keyword, k, 0, 0}, {Keyword, k, 0, n + 1}, {EOF, "", 0, 3*n + 3}})
		same(t, "9"+k, []Token{{Int, "9", 9, 0}, {Keyword, k, 0, 1}, {EOF, "", 0, n + 1}})
		for i := range n {
			ident(k[:i] + strings.ToUpper(k[i:i+1]) + k[i+1:])
			for _, b := range []byte("aqz_AZ") {
				ident(k[:i] + string(b) + k[i:])
				ident(k[:i] + string(b) + k[i+1:])
			}
			if less := k[:i] + k[i+1:]; less != "" {
				ident(less)
			}
		}
		ident(strings.ToUpper(k))
		for _, b := range []byte("asxz_AZ019") {
			ident(k + string(b))
		}
		ident("_" + k)
		ident(k + k)
		same(t, k+"\x00", []Token{{Keyword, k, 0, 0}, {Invalid, "\x00", 0, n}, {EOF, "", 0, n + 1}})
	}
}

// P15.1: words of all lengths around the greatest one of an identifier.
func TestWords(t *testing.T) {
	for _, n := range []int{1, 2, 3, 9, 30, 31, 32, 33, 34, 63, 64, 65, 100, 255, 256, 257, 288, 65536, 65568, 100000} {
		for _, first := range []string{"a", "m", "z", "A", "M", "Z", "_"} {
			for _, rest := range []string{"a", "z", "A", "Z", "_", "0", "9", "x1_Y"} {
				text := first + strings.Repeat(rest, n)[:n-1]
				kind := Ident
				if n > 32 {
					kind = Invalid
				}
				same(t, text, []Token{{kind, text, 0, 0}, {EOF, "", 0, n}})
				same(t, "-"+text+"-", []Token{{Punct, "-", 0, 0}, {kind, text, 0, 1}, {Punct, "-", 0, n + 1}, {EOF, "", 0, n + 2}})
			}
		}
	}
	// A keyword with more than 32 bytes behind it is no keyword.
	long := "if" + strings.Repeat("0", 31)
	same(t, long, []Token{{Invalid, long, 0, 0}, {EOF, "", 0, 33}})
	// Each byte at the start, inside and at the end of a word.
	for b := range 256 {
		s := string([]byte{byte(b)})
		letter := 'a' <= b && b <= 'z' || 'A' <= b && b <= 'Z' || b == '_'
		digit := '0' <= b && b <= '9'
		if first := Scan(s + "a")[0]; (first == Token{Ident, s + "a", 0, 0}) != letter {
			t.Errorf("%q begins a word: %t", s, !letter)
		}
		if first := Scan("a" + s)[0]; (first == Token{Ident, "a" + s, 0, 0}) != (letter || digit) {
			t.Errorf("%q ends a word: %t", s, !(letter || digit))
		}
		if first := Scan("a" + s + "b")[0]; (first == Token{Ident, "a" + s + "b", 0, 0}) != (letter || digit) {
			t.Errorf("%q is a part of a word: %t", s, !(letter || digit))
		}
	}
}

// P15.1: numbers by hand.
func TestNumbersByHand(t *testing.T) {
	for _, c := range []struct {
		text  string
		kind  int
		value int16
	}{
		{"0", Int, 0}, {"1", Int, 1}, {"9", Int, 9}, {"10", Int, 10}, {"99", Int, 99}, {"100", Int, 100}, {"255", Int, 255}, {"256", Int, 256}, {"9999", Int, 9999},
		{"10000", Int, 10000}, {"32766", Int, 32766}, {"32767", Int, 32767},
		{"32768", Invalid, 0}, {"32769", Invalid, 0}, {"40000", Invalid, 0}, {"65535", Invalid, 0}, {"65536", Invalid, 0}, {"65537", Invalid, 0}, {"99999", Invalid, 0},
		{"100000", Invalid, 0}, {"2147483647", Invalid, 0}, {"4294967296", Invalid, 0}, {"4294967297", Invalid, 0}, {"9223372036854775807", Invalid, 0},
		{"9223372036854775808", Invalid, 0}, {"18446744073709551615", Invalid, 0}, {"18446744073709551616", Invalid, 0}, {"18446744073709551617", Invalid, 0},
		{"340282366920938463463374607431768211457", Invalid, 0}, {"1" + strings.Repeat("0", 5000), Invalid, 0}, {strings.Repeat("9", 5000), Invalid, 0},
		{"00", Invalid, 0}, {"000", Invalid, 0}, {"01", Invalid, 0}, {"001", Invalid, 0}, {"09", Invalid, 0}, {"010", Invalid, 0}, {"032767", Invalid, 0}, {"032768", Invalid, 0},
		{"0000000000000000000000000001", Invalid, 0}, {strings.Repeat("0", 5000), Invalid, 0}, {strings.Repeat("0", 5000) + "7", Invalid, 0},
	} {
		n := len(c.text)
		number := Token{c.kind, c.text, c.value, 0}
		same(t, c.text, []Token{number, {EOF, "", 0, n}})
		same(t, c.text+"x1", []Token{number, {Ident, "x1", 0, n}, {EOF, "", 0, n + 2}})
		same(t, c.text+"_", []Token{number, {Ident, "_", 0, n}, {EOF, "", 0, n + 1}})
		same(t, c.text+"every", []Token{number, {Keyword, "every", 0, n}, {EOF, "", 0, n + 5}})
		same(t, c.text+";", []Token{number, {Punct, ";", 0, n}, {EOF, "", 0, n + 1}})
		same(t, c.text+"\xb2", []Token{number, {Invalid, "\xb2", 0, n}, {EOF, "", 0, n + 1}})
		number.Pos = 1
		same(t, "-"+c.text, []Token{{Punct, "-", 0, 0}, number, {EOF, "", 0, n + 1}})
		same(t, " "+c.text+" ", []Token{number, {EOF, "", 0, n + 2}})
	}
}

// P15.1: all numbers of up to five digits, without leading zeros and with them.
func TestNumbers(t *testing.T) {
	for i := range 100000 {
		text := strconv.Itoa(i)
		if i <= 32767 {
			same(t, text, []Token{{Int, text, int16(i), 0}, {EOF, "", 0, len(text)}})
		} else {
			same(t, text, []Token{{Invalid, text, 0, 0}, {EOF, "", 0, len(text)}})
		}
		for _, zeros := range []string{"0", "00000"} {
			same(t, zeros+text, []Token{{Invalid, zeros + text, 0, 0}, {EOF, "", 0, len(zeros + text)}})
		}
	}
	// Whole multiples of 65536, which is where words start anew, and what is next to them.
	for i := 65536; i < 1<<28; i += 65536 * 7 {
		for _, n := range []int{i - 1, i, i + 1, i + 32767} {
			text := strconv.Itoa(n)
			same(t, text, []Token{{Invalid, text, 0, 0}, {EOF, "", 0, len(text)}})
		}
	}
}

// P15.1: each punctuation mark, each pair of them and each triple, without spaces and with them.
func TestPunctuationTokens(t *testing.T) {
	all := append(strings.Fields(allMarks), "&", "|")
	for _, a := range all {
		kind := Punct
		if a == "&" || a == "|" {
			kind = Invalid
		}
		x := Token{kind, a, 0, 0}
		same(t, a, []Token{x, {EOF, "", 0, len(a)}})
		same(t, a+"x", []Token{x, {Ident, "x", 0, len(a)}, {EOF, "", 0, len(a) + 1}})
		same(t, a+"7", []Token{x, {Int, "7", 7, len(a)}, {EOF, "", 0, len(a) + 1}})
		same(t, "7"+a, []Token{{Int, "7", 7, 0}, {kind, a, 0, 1}, {EOF, "", 0, len(a) + 1}})
		same(t, "x"+a, []Token{{Ident, "x", 0, 0}, {kind, a, 0, 1}, {EOF, "", 0, len(a) + 1}})
		same(t, " "+a+"\n", []Token{{kind, a, 0, 1}, {EOF, "", 0, len(a) + 2}})
		for _, b := range all {
			compare(t, a+b)
			compare(t, a+"x"+b)
			separate := Scan(a + " " + b)
			if len(separate) != 3 || separate[0].Text != a || separate[1].Text != b || separate[1].Pos != len(a)+1 {
				t.Errorf("%q and %q: %s", a, b, quoted(separate))
			}
			for _, c := range all {
				compare(t, a+b+c)
			}
		}
	}
}

// P15.1: pairs of marks that make a longer one, or a comment, by hand, and all others.
func TestLongestMark(t *testing.T) {
	together := []string{"! =", "! ==", "& &", "& &&", "< =", "< ==", "= =", "= ==", "> =", "> ==", "| |", "| ||", "/ /"}
	all := append(strings.Fields(allMarks), "&", "|")
	for _, a := range all {
		for _, b := range all {
			l := Scan(a + b)
			apart := len(l) == 3 && l[0].Text == a && l[1].Text == b
			if apart == slices.Contains(together, a+" "+b) {
				t.Errorf("%q and %q: %s", a, b, quoted(l))
			}
		}
	}
}

// P15.1: every single byte, every pair of bytes, and every byte between others.
func TestEachByte(t *testing.T) {
	invalid := 0
	for b := range 256 {
		one := string([]byte{byte(b)})
		compare(t, one)
		if Scan(one)[0] == (Token{Invalid, one, 0, 0}) {
			invalid++
		}
		for c := range 256 {
			compare(t, string([]byte{byte(b), byte(c)}))
		}
		for _, around := range []string{"a", "0", "1", "=", "/", " ", "\n", "&", "|", "<", "é", "//"} {
			compare(t, around+one+around)
		}
	}
	// All but 53 letters, 10 digits, 4 bytes of white space, and the 17 marks of one byte.
	if invalid != 256-53-10-4-17 {
		t.Errorf("%d bytes are invalid", invalid)
	}
}

// P15.1, P15.2: all short texts.
func TestShortTexts(t *testing.T) {
	check := func(src string) {
		compare(t, src)
		checkCover(t, src)
	}
	each("a0/= \n", 6, check)
	each("a07/\n&|=<!#", 4, check)
	each("/\n\r x", 6, check)
	each("let 3", 5, check)
}

// gap are the bytes that may be skipped ahead of a token, and lastGap those at the end of the text.
var (
	gap     = regexp.MustCompile(`^(?:[ \t\r\n]|//[^\n]*\n)*$`)
	lastGap = regexp.MustCompile(`^(?:[ \t\r\n]|//[^\n]*\n)*(?://[^\n]*)?$`)
)

// checkCover checks that the tokens of a text, with what may be skipped, are the whole text in order.
func checkCover(t *testing.T, src string) {
	t.Helper()
	l := Scan(src)
	pos := 0
	for i, x := range l {
		skipped := gap
		if i == len(l)-1 {
			skipped = lastGap
		}
		if x.Pos < pos || x.Pos > len(src) || !skipped.MatchString(src[pos:x.Pos]) || !strings.HasPrefix(src[x.Pos:], x.Text) {
			t.Fatalf("%q: token %d is %s, behind offset %d", src, i, quoted(l[i:i+1]), pos)
		}
		if (x.Kind == EOF) != (i == len(l)-1) || (x.Text == "") != (x.Kind == EOF) {
			t.Fatalf("%q: token %d is %s", src, i, quoted(l[i:i+1]))
		}
		pos = x.Pos + len(x.Text)
	}
	if pos != len(src) {
		t.Fatalf("%q: the tokens end at %d", src, pos)
	}
}

// P15.1, P15.2: random texts.
func TestScanAtRandom(t *testing.T) {
	g := generator(1)
	for range 30000 {
		src := g.source(pick(&g, []int{3, 8, 40}))
		compare(t, src)
		checkCover(t, src)
	}
}

// P15.1: what is ahead of a token, if it is complete, does not change the tokens behind it.
func TestScanParts(t *testing.T) {
	g := generator(2)
	for range 5000 {
		a, b := g.source(10)+pick(&g, []string{"\n", "\n ", "\n\t\n"}), g.source(10)
		first, second := Scan(a), Scan(b)
		for i := range second {
			second[i].Pos += len(a)
		}
		same(t, a+b, append(first[:len(first)-1], second...))
	}
}

// P15.1: long texts, of one token, of many and of none.
func TestLongTexts(t *testing.T) {
	const n = 1 << 20
	for _, c := range []struct {
		src  string
		want int // how many tokens
	}{
		{strings.Repeat("a", n), 2}, {strings.Repeat("7", n), 2}, {strings.Repeat("0", n), 2}, {strings.Repeat(" ", n), 1}, {strings.Repeat("\n", n), 1},
		{strings.Repeat("/", n), 1}, {strings.Repeat("//\n", n), 1}, {strings.Repeat("// x\n \t", n), 1}, {strings.Repeat("(", n), n + 1},
		{strings.Repeat("=", n), n/2 + 1}, {strings.Repeat("&", n+1), n/2 + 2}, {strings.Repeat("\xff", n), n + 1}, {strings.Repeat("a ", n), n + 1},
		{strings.Repeat("1a", n), 3}, {strings.Repeat("1;", n), 2*n + 1}, {strings.Repeat("a//\n", n), n + 1}, {strings.Repeat("/ ", n), n + 1},
	} {
		l := Scan(c.src)
		if len(l) != c.want {
			t.Errorf("%.10q...: %d tokens, want %d", c.src, len(l), c.want)
		}
		if end := l[len(l)-1]; end != (Token{EOF, "", 0, len(c.src)}) {
			t.Errorf("%.10q...: the last token is %v", c.src, end)
		}
	}
}

// P15.1: what a caller does with a result of Scan does not change another one.
func TestScanIsNew(t *testing.T) {
	const src = "let x = 1;"
	first, second := Scan(src), Scan(src)
	for i := range first {
		first[i] = Token{Invalid, "changed", 9, 9}
	}
	_ = append(first[:1], Token{Invalid, "changed", 9, 9})
	if want := tokensOf(src); !slices.Equal(second, want) {
		t.Errorf("another result is %s", quoted(second))
	}
	compare(t, src)
}
