package lexer

import (
	"fmt"
	"math/big"
	"regexp"
	"slices"
	"strings"
	"testing"

	"trickle/api"
)

// allKeywords and allMarks are those of the chapter, in its order.
const (
	allKeywords = "channel checkpoint const deadline else emit every fresh if let on output read repeat return send sensor task together var while within"
	allMarks    = "! != % && ( ) * + , - / ; < <= = == > >= [ ] { || }"
)

// The definitions of the chapter. Two bytes come before one, so that the longest punctuation mark is found.
var (
	skippedBytes = regexp.MustCompile(`^(?:[\x20\x09\x0A\x0D]|//[^\x0A]*)*`)
	wordBytes    = regexp.MustCompile(`^[a-zA-Z_][a-zA-Z0-9_]*`)
	numberBytes  = regexp.MustCompile(`^[0-9]+`)
	markBytes    = regexp.MustCompile(`^(?:!=|&&|<=|==|>=|\|\||[!%()*+,\-/;<=>\[\]{}])`)
)

// tokensOf is the definition of Scan.
func tokensOf(src string) []Token {
	var l []Token
	for pos := 0; ; {
		pos += len(skippedBytes.FindString(src[pos:]))
		if pos == len(src) {
			return append(l, Token{0, "", 0, pos})
		}
		t := tokenAt(src[pos:])
		t.Pos = pos
		l = append(l, t)
		pos += len(t.Text)
	}
}

// tokenAt is the definition of the token at the start of a text.
func tokenAt(src string) Token {
	if text := wordBytes.FindString(src); text != "" {
		switch {
		case slices.Contains(strings.Fields(allKeywords), text):
			return Token{3, text, 0, 0}
		case len(text) <= 32:
			return Token{1, text, 0, 0}
		}
		return Token{5, text, 0, 0}
	}
	if text := numberBytes.FindString(src); text != "" {
		value, _ := new(big.Int).SetString(text, 10)
		if value.Cmp(big.NewInt(32767)) > 0 || text[0] == '0' && len(text) > 1 {
			return Token{5, text, 0, 0}
		}
		return Token{2, text, int16(value.Int64()), 0}
	}
	if text := markBytes.FindString(src); text != "" {
		return Token{4, text, 0, 0}
	}
	return Token{5, src[:1], 0, 0}
}

// errorsOf is the definition of Errors.
func errorsOf(l []Token) []api.Diagnostic {
	var all []api.Diagnostic
	for _, t := range l {
		switch {
		case t.Kind != 5:
		case wordBytes.MatchString(t.Text):
			all = append(all, api.Diagnostic{Pos: t.Pos, Text: "identifier too long"})
		case numberBytes.MatchString(t.Text):
			all = append(all, api.Diagnostic{Pos: t.Pos, Text: "invalid integer"})
		default:
			all = append(all, api.Diagnostic{Pos: t.Pos, Text: "invalid character"})
		}
	}
	return all
}

// joinOf is the definition of Join.
func joinOf(l []Token) string {
	var texts []string
	for _, t := range l {
		if t.Text != "" {
			texts = append(texts, t.Text)
		}
	}
	all := ""
	for i, text := range texts {
		if i > 0 {
			both := tokensOf(texts[i-1] + text)
			if len(both) != 3 || both[0].Text != texts[i-1] || both[1].Text != text {
				all += " "
			}
		}
		all += text
	}
	return all
}

// withTexts returns tokens of no particular kind with some texts.
func withTexts(texts ...string) []Token {
	var l []Token
	for _, text := range texts {
		l = append(l, Token{Kind: 1, Text: text})
	}
	return l
}

// withoutPos returns tokens without their positions.
func withoutPos(l []Token) []Token {
	l = slices.Clone(l)
	for i := range l {
		l[i].Pos = 0
	}
	return l
}

// same fails the test unless Scan returns these tokens for a text.
func same(t *testing.T, src string, want []Token) {
	t.Helper()
	if got := Scan(src); !slices.Equal(got, want) {
		t.Fatalf("Scan(%q) = %v, want %v", src, quoted(got), quoted(want))
	}
}

// compare compares Scan with its definition.
func compare(t *testing.T, src string) {
	t.Helper()
	same(t, src, tokensOf(src))
}

// quoted makes tokens readable.
func quoted(l []Token) string {
	var all []string
	for _, t := range l {
		all = append(all, fmt.Sprintf("{%d %q %d %d}", t.Kind, t.Text, t.Value, t.Pos))
	}
	return strings.Join(all, " ")
}

// generator makes numbers that follow no simple rule. Its value is never 0.
type generator uint64

// below returns a number from 0 to n-1.
func (g *generator) below(n int) int {
	*g ^= *g << 13
	*g ^= *g >> 7
	*g ^= *g << 17
	return int((uint64(*g) >> 20) % uint64(n))
}

// pick returns one of some values.
func pick[T any](g *generator, l []T) T { return l[g.below(len(l))] }

// bytes returns up to so many bytes of a set.
func (g *generator) bytes(most int, set string) string {
	var b []byte
	for range g.below(most + 1) {
		b = append(b, set[g.below(len(set))])
	}
	return string(b)
}

const (
	someWordBytes = "abcxyzABCXYZ_0189"
	allDigits     = "0123456789"
)

// fragment returns a part of a source text.
func (g *generator) fragment() string {
	switch g.below(12) {
	case 0:
		return pick(g, strings.Fields(allKeywords)) + g.bytes(1, someWordBytes)
	case 1:
		return pick(g, []string{"_", "a", "Z", "x"}) + g.bytes(pick(g, []int{2, 40}), someWordBytes)
	case 2:
		return g.bytes(pick(g, []int{2, 5, 30}), allDigits)
	case 3:
		return fmt.Sprint(32760 + g.below(15))
	case 4, 5, 6:
		return pick(g, strings.Fields(allMarks))
	case 7:
		return g.bytes(3, " \t\n\r")
	case 8:
		return g.bytes(4, "/|&=!<>")
	case 9:
		return "//" + g.bytes(6, "/ ab1=\"\r\x00\xff\n")
	case 10:
		return pick(g, []string{"#", "\x00", "\v", "\f", "\x7f", "\x80", "\xff", "é", "\u00a0", "\u2028", "\ufeff", "٣", "ａ", "🙂", "\"", "'", "."})
	}
	return string([]byte{byte(g.below(256))})
}

// source returns a text of up to so many parts, of which some are of a single kind.
func (g *generator) source(most int) string {
	all := ""
	for range g.below(most + 1) {
		all += g.fragment()
	}
	if g.below(4) == 0 {
		return all + pick(g, []string{"//", "// the end", "/", "\n", " ", "//\n", "///"})
	}
	return all
}

// each calls f with every text of up to so many bytes of those in the alphabet.
func each(alphabet string, most int, f func(string)) {
	f("")
	if most == 0 {
		return
	}
	for i := range len(alphabet) {
		each(alphabet, most-1, func(rest string) { f(alphabet[i:i+1] + rest) })
	}
}
