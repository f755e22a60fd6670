package lexer

import (
	"strconv"
	"strings"
)

const (
	whiteSpace   = " \t\n\r"
	digits       = "0123456789"
	letters      = "ABCDEFGHIJKLMNOPQRSTUVWXYZ_abcdefghijklmnopqrstuvwxyz" // a word begins with one of them
	commentStart = "//"
	lineFeed     = '\n'
	maxName      = 32 // bytes of an identifier
)

// skipped returns how many bytes of white space and comments a text begins with.
func skipped(src string) int {
	rest := strings.TrimLeft(src, whiteSpace)
	for strings.HasPrefix(rest, commentStart) {
		end := strings.IndexByte(rest, lineFeed)
		if end < 0 {
			return len(src)
		}
		rest = strings.TrimLeft(rest[end:], whiteSpace)
	}
	return len(src) - len(rest)
}

// first returns the token at the start of a text that is not empty and begins with nothing that is skipped.
func first(src string) Token {
	switch {
	case beginsWith(src, letters):
		return word(longest(src, letters+digits))
	case beginsWith(src, digits):
		return number(longest(src, digits))
	}
	if m := mark(src); m != "" {
		return Token{Kind: Punct, Text: m}
	}
	return Token{Kind: Invalid, Text: src[:1]}
}

// firstIs reports whether the first bytes of src, which is not empty, are a token, and text is the text of it.
func firstIs(src, text string) bool {
	return skipped(src) == 0 && first(src).Text == text
}

// word returns the token of a word.
func word(text string) Token {
	t := Token{Kind: Ident, Text: text}
	switch {
	case isKeyword(text):
		t.Kind = Keyword
	case len(text) > maxName:
		t.Kind = Invalid
	}
	return t
}

func isKeyword(text string) bool {
	for _, k := range keywords {
		if k == text {
			return true
		}
	}
	return false
}

// number returns the token of a number.
func number(text string) Token {
	n, err := strconv.ParseInt(text, 10, 16)
	// A number that is not the decimal form of its value has leading zeros.
	if err != nil || strconv.FormatInt(n, 10) != text {
		return Token{Kind: Invalid, Text: text}
	}
	return Token{Kind: Int, Text: text, Value: int16(n)}
}

// mark returns the longest punctuation mark at the start of a text, or the empty string if there is none.
func mark(src string) string {
	found := ""
	for _, m := range marks {
		if len(m) > len(found) && strings.HasPrefix(src, m) {
			found = m
		}
	}
	return found
}

// longest returns the longest start of a text that consists of bytes of a set.
func longest(src, set string) string {
	return src[:len(src)-len(strings.TrimLeft(src, set))]
}

// beginsWith reports whether the first byte of a text is one of a set.
func beginsWith(src, set string) bool {
	return src != "" && strings.IndexByte(set, src[0]) >= 0
}
