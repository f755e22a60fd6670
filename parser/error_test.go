package parser

import (
	"slices"
	"strings"
	"testing"

	"trickle/api"
	"trickle/lexer"
)

// edits returns what becomes of a list of tokens: each token left out, doubled, exchanged with the next one and
// replaced by each other kind of token, one inserted before it, each prefix, and a token added at the end.
func edits(l []string) [][]string {
	var all [][]string
	for i := range l {
		all = append(all,
			l[:i],
			slices.Concat(l[:i], l[i+1:]),
			slices.Concat(l[:i+1], l[i:]),
		)
		if i+1 < len(l) {
			all = append(all, slices.Concat(l[:i], []string{l[i+1], l[i]}, l[i+2:]))
		}
		for _, text := range vocabulary() {
			all = append(all,
				slices.Concat(l[:i], []string{text}, l[i+1:]),
				slices.Concat(l[:i], []string{text}, l[i:]),
			)
		}
	}
	for _, text := range vocabulary() {
		all = append(all, slices.Concat(l, []string{text}))
	}
	return all
}

// P17.1, P17.2: sentences that use all of the grammar, and each of them with a small change, with the offset of the
// diagnostic.
func TestEditedSentences(t *testing.T) {
	for _, src := range sentences() {
		if l := checkParse(t, src); len(l) > 0 {
			t.Errorf("Parse(%q): %v", src, l)
		}
		for _, l := range edits(texts(src)) {
			checkParse(t, strings.Join(l, " "))
		}
	}
	for _, src := range exprSentences() {
		if l := checkExpr(t, src); len(l) > 0 {
			t.Errorf("ParseExpr(%q): %v", src, l)
		}
		for _, l := range edits(texts(src)) {
			checkExpr(t, strings.Join(l, " "))
		}
	}
}

// P17.2: a text that ends in the middle of a rule has its syntax error at the end of the source, behind all that is
// skipped.
func TestTextsThatEndTooEarly(t *testing.T) {
	for _, src := range sentences() {
		l := texts(src)
		for i := range l {
			checkEnd(t, strings.Join(l[:i], " "), programEnds(l[:i]))
		}
	}
	for _, src := range []string{"a +", "(a", "a[b", "a[", "read", "read(", "read(s", "-", "!", "(", "((a)", "a ||", "a <", "a < b &&", "-(-", "a * ("} {
		for _, space := range []string{"", " ", "\n", "// the end", " \r\n// the end\n\t"} {
			x, l := ParseExpr(src + space)
			if !same(l, []api.Diagnostic{{Pos: len(src + space), Text: "syntax error"}}) || !same(x, api.Expr{}) {
				t.Errorf("ParseExpr(%q) = %+v, %v", src+space, x, l)
			}
		}
	}
}

// programEnds reports whether the tokens of a program up to here are whole declarations.
func programEnds(l []string) bool {
	open := 0
	for _, text := range l {
		switch text {
		case "{":
			open++
		case "}":
			open--
		}
	}
	return len(l) == 0 || open == 0 && (l[len(l)-1] == ";" || l[len(l)-1] == "}")
}

func checkEnd(t *testing.T, src string, matches bool) {
	t.Helper()
	for _, space := range []string{"", " ", "\n", "// the end", " \r\n// the end\n\t"} {
		p, l := Parse(src + space)
		if matches {
			if len(l) > 0 {
				t.Fatalf("Parse(%q): %v", src+space, l)
			}
			continue
		}
		if !same(l, []api.Diagnostic{{Pos: len(src + space), Text: "syntax error"}}) || !same(p, api.Program{}) {
			t.Fatalf("Parse(%q) = %+v, %v", src+space, p, l)
		}
	}
}

// P17.1, P17.2: an expression is no program, a program no expression; an expression may not be followed by a token.
func TestOtherRule(t *testing.T) {
	for _, src := range exprSentences() {
		refused(t, src, 0)
		refused(t, "  "+src, 2)
		for _, text := range append(vocabulary(), "1", "a") {
			checkExpr(t, src+" "+text)
		}
		for _, text := range []string{"1", "a", ";", ")", "]", "{", "!", "=", ",", "let", "read", "("} {
			x, l := ParseExpr(src + " " + text)
			if !same(l, []api.Diagnostic{{Pos: len(src) + 1, Text: "syntax error"}}) || !same(x, api.Expr{}) {
				t.Errorf("ParseExpr(%q) = %+v, %v", src+" "+text, x, l)
			}
		}
	}
	for _, src := range sentences() {
		x, l := ParseExpr(src)
		if !same(l, []api.Diagnostic{{Pos: 0, Text: "syntax error"}}) || !same(x, api.Expr{}) {
			t.Errorf("ParseExpr(%q) = %+v, %v", src, x, l)
		}
		checkExpr(t, src)
	}
	checkExpr(t, documentText)
}

// bothTooLong checks that both functions refuse a text for its length alone.
func bothTooLong(t *testing.T, src string) {
	t.Helper()
	want := []api.Diagnostic{{Pos: 16384, Text: "source too long"}}
	if p, l := Parse(src); !same(l, want) || !same(p, api.Program{}) {
		t.Errorf("Parse of %d bytes: %v", len(src), l)
	}
	if x, l := ParseExpr(src); !same(l, want) || !same(x, api.Expr{}) {
		t.Errorf("ParseExpr of %d bytes: %v", len(src), l)
	}
}

// P17.2: a text of MaxSource bytes is parsed, one of a byte more is not, whatever it consists of.
func TestLongTexts(t *testing.T) {
	for _, src := range []string{
		strings.Repeat("var v;", 3000)[:16380] + "    ",
		documentText + strings.Repeat(" ", 16384-len(documentText)),
		strings.Repeat("\n", 16384-len(documentText)) + documentText,
		documentText + "//" + strings.Repeat("x", 16382-len(documentText)),
		strings.Repeat("?", 16384),
		strings.Repeat("(", 16384),
		strings.Repeat("x", 16384),
		strings.Repeat("9", 16384),
		strings.Repeat("x;", 8192),
		"task t every 1{" + strings.Repeat("x=1;", 4092) + "}",
	} {
		src += strings.Repeat(" ", 16384-len(src))
		checkParse(t, src)
		checkExpr(t, src)
		for _, more := range []string{" ", "\n", "?", "x", "0", "}", "//", "\x00", strings.Repeat("\xff", 1<<20)} {
			bothTooLong(t, src+more)
			bothTooLong(t, more+src)
		}
	}
	p, l := Parse(strings.Repeat("var v;", 2730))
	if len(l) > 0 || len(p.Globals) != 2730 {
		t.Errorf("a program of many declarations: %v", l)
	}
}

// P17.2: a syntax error in the last of MaxSource bytes, and behind it.
func TestErrorsAtTheEndOfLongTexts(t *testing.T) {
	for src, pos := range map[string]int{"x": 16383, "; ;": 16381, "var x": 16384, "var x ": 16384, "var x]": 16383, "sensor s;//\n7": 16383} {
		refused(t, strings.Repeat(" ", 16384-len(src))+src, pos)
	}
}

// P17.2: the diagnostics of layer 15 are all that is reported, with and without a syntax error beside them.
func TestDiagnosticsOfTokens(t *testing.T) {
	long := strings.Repeat("n", 33)
	for src, want := range map[string][]api.Diagnostic{
		"?":                 {{Pos: 0, Text: "invalid character"}},
		"var v; ?":          {{Pos: 7, Text: "invalid character"}},
		"? var v;":          {{Pos: 0, Text: "invalid character"}},
		"var v var ?":       {{Pos: 10, Text: "invalid character"}},
		"} ?":               {{Pos: 2, Text: "invalid character"}},
		"var v[00];":        {{Pos: 6, Text: "invalid integer"}},
		"var v[32768];":     {{Pos: 6, Text: "invalid integer"}},
		"var v = -32768;":   {{Pos: 9, Text: "invalid integer"}},
		"var " + long + ";": {{Pos: 4, Text: "identifier too long"}},
		"; 01 " + long + " \" \x00\xff": {
			{Pos: 2, Text: "invalid integer"}, {Pos: 5, Text: "identifier too long"}, {Pos: 39, Text: "invalid character"},
			{Pos: 41, Text: "invalid character"}, {Pos: 42, Text: "invalid character"},
		},
		"var a; var b = 99999; var & c;": {{Pos: 15, Text: "invalid integer"}, {Pos: 26, Text: "invalid character"}},
		"a | b & c":                      {{Pos: 2, Text: "invalid character"}, {Pos: 6, Text: "invalid character"}},
	} {
		p, l := Parse(src)
		if !same(l, want) || !same(p, api.Program{}) {
			t.Errorf("Parse(%q) = %+v, %v, not %v", src, p, l, want)
		}
		x, m := ParseExpr(src)
		if !same(m, want) || !same(x, api.Expr{}) {
			t.Errorf("ParseExpr(%q) = %+v, %v, not %v", src, x, m, want)
		}
	}
}

// P17.1, P17.2: an invalid token at each place of a text that matches, and of one with a syntax error.
func TestInvalidTokenAtEachPlace(t *testing.T) {
	for _, src := range append(sentences(), exprSentences()...) {
		l := texts(src)
		for i := range len(l) + 1 {
			for _, text := range []string{"?", "007", "40000", strings.Repeat("_", 33), "&", "\x00", "\xc3\xa4"} {
				changed := strings.Join(slices.Concat(l[:i], []string{text}, l[i:]), " ")
				if len(checkParse(t, changed)) == 0 || len(checkExpr(t, changed)) == 0 {
					t.Errorf("%q is accepted", changed)
				}
				checkParse(t, changed+" ) "+text)
			}
		}
	}
}

// P17.2: every diagnostic that both functions could return for short texts of any bytes.
func TestShortTexts(t *testing.T) {
	const bytes = "a1 ;-=(){[]}<!&|/\n\x00"
	var extend func(src string, more int)
	extend = func(src string, more int) {
		checkParse(t, src)
		checkExpr(t, src)
		if more == 0 {
			return
		}
		for i := range len(bytes) {
			extend(src+bytes[i:i+1], more-1)
		}
	}
	extend("", 3)
	for b := range 256 {
		for _, src := range []string{"%", "var v; %", "a%", "%a", "a % b"} {
			src = strings.ReplaceAll(src, "%", string([]byte{byte(b)}))
			checkParse(t, src)
			checkExpr(t, src)
		}
	}
}

// P17.4: what follows the token of a syntax error does not change the diagnostic, as long as there is no diagnostic
// of another kind.
func TestTextBehindTheError(t *testing.T) {
	g := generator(171)
	for _, src := range sentences() {
		for range 200 {
			l := texts(src)
			l[g.below(len(l))] = pick(&g, vocabulary())
			checkSuffixes(t, &g, strings.Join(l, " "))
		}
	}
	for _, src := range exprSentences() {
		for range 50 {
			l := texts(src)
			l[g.below(len(l))] = pick(&g, vocabulary())
			checkSuffixes(t, &g, strings.Join(l, "\n"))
		}
	}
}

// checkSuffixes replaces what follows the token of the syntax error, if there is one.
func checkSuffixes(t *testing.T, g *generator, src string) {
	t.Helper()
	_, programErrors := Parse(src)
	_, exprErrors := ParseExpr(src)
	for _, suffix := range []string{"", " ", "\n// end", " ;", " )", " }", " " + strings.Join(g.tokens(), " ")} {
		if prefix, ok := upToError(src, programErrors); ok {
			if p, l := Parse(prefix + suffix); !same(l, programErrors) || !same(p, api.Program{}) {
				t.Fatalf("Parse(%q) = %+v, %v, not %v", prefix+suffix, p, l, programErrors)
			}
		}
		if prefix, ok := upToError(src, exprErrors); ok {
			if x, l := ParseExpr(prefix + suffix); !same(l, exprErrors) || !same(x, api.Expr{}) {
				t.Fatalf("ParseExpr(%q) = %+v, %v, not %v", prefix+suffix, x, l, exprErrors)
			}
		}
	}
}

// tokens returns up to 20 tokens in no order.
func (g *generator) tokens() []string {
	var l []string
	for range g.below(20) {
		l = append(l, pick(g, vocabulary()))
	}
	return l
}

// upToError returns a text up to the token of its syntax error, and false if that is the end or there is none.
func upToError(src string, l []api.Diagnostic) (string, bool) {
	for _, token := range lexer.Scan(src) {
		if len(l) > 0 && token.Pos == l[0].Pos && token.Kind != lexer.EOF {
			return src[:token.Pos+len(token.Text)], true
		}
	}
	return "", false
}
