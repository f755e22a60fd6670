package parser

import (
	"fmt"
	"strings"
	"testing"

	"trickle/api"
	"trickle/ast"
	"trickle/lexer"
)

// accepted checks the program of a text that matches.
func accepted(t *testing.T, src string, want api.Program) {
	t.Helper()
	p, l := Parse(src)
	if !same(p, want) || len(l) > 0 {
		t.Errorf("Parse(%q) = %+v, %v, not %+v", src, p, l, want)
	}
	checkParse(t, src)
}

// refused checks the offset of the syntax error of a text.
func refused(t *testing.T, src string, pos int) {
	t.Helper()
	p, l := Parse(src)
	if !same(l, []api.Diagnostic{{Pos: pos, Text: "syntax error"}}) || !same(p, api.Program{}) {
		t.Errorf("Parse(%q) = %+v, %v, not a syntax error at %d", src, p, l, pos)
	}
	checkParse(t, src)
}

// P17.1: a text without tokens is the empty program, but no expression.
func TestNoTokens(t *testing.T) {
	for _, src := range []string{"", " ", "\t\n\r ", "//", "// var x;", "// a\n", " // a\n\t//\n//", strings.Repeat("\n", api.MaxSource)} {
		accepted(t, src, api.Program{})
		x, l := ParseExpr(src)
		if !same(x, api.Expr{}) || !same(l, []api.Diagnostic{{Pos: len(src), Text: "syntax error"}}) {
			t.Errorf("ParseExpr(%q) = %+v, %v", src, x, l)
		}
	}
}

// P17.1: the fields of each kind of declaration, with and without its optional parts; all others are zero.
func TestDeclarations(t *testing.T) {
	constant := func(value int16) api.Program {
		return api.Program{Consts: []api.Const{{Name: "c", Value: value, Pos: 6}}}
	}
	global := func(length int, init int16) api.Program {
		return api.Program{Globals: []api.Global{{Name: "v", Len: length, Init: init, Pos: 4}}}
	}
	channel := func(capacity int) api.Program {
		return api.Program{Channels: []api.Channel{{Name: "h", Cap: capacity, Pos: 8}}}
	}
	for src, want := range map[string]api.Program{
		"const c = 0;":        constant(0),
		"const c = 1;":        constant(1),
		"const c = 32767;":    constant(32767),
		"const c = -0;":       constant(0),
		"const c = -1;":       constant(-1),
		"const c = -32767;":   constant(-32767),
		"const c = - // \n1;": constant(-1),
		"var v;":              global(0, 0),
		"var v = 0;":          global(0, 0),
		"var v = 1;":          global(0, 1),
		"var v = 32767;":      global(0, 32767),
		"var v = -0;":         global(0, 0),
		"var v = -1;":         global(0, -1),
		"var v = -32767;":     global(0, -32767),
		"var v[1];":           global(1, 0),
		"var v[2];":           global(2, 0),
		"var v[64];":          global(64, 0),
		"var v[32767];":       global(32767, 0),
		"sensor s;":           {Sensors: []string{"s"}},
		"output o;":           {Outputs: []string{"o"}},
		"channel h[0];":       channel(0),
		"channel h[1];":       channel(1),
		"channel h[32767];":   channel(32767),
	} {
		accepted(t, src, want)
	}
}

// P17.1: each trigger with and without its optional parts, and numbers at the limits.
func TestTriggers(t *testing.T) {
	for src, want := range map[string]api.Task{
		"every 1":                                {Period: 1},
		"every 32767":                            {Period: 32767},
		"every 1 deadline 0":                     {Period: 1},
		"every 1 deadline 1":                     {Period: 1, Deadline: 1},
		"every 7 deadline 32767":                 {Period: 7, Deadline: 32767},
		"on c(p)":                                {Channel: "c", Param: "p"},
		"on c(c)":                                {Channel: "c", Param: "c"},
		"on c(p) within 0":                       {Channel: "c", Param: "p"},
		"on c(p) within 1":                       {Channel: "c", Param: "p", Within: 1},
		"on c(p) within 32767":                   {Channel: "c", Param: "p", Within: 32767},
		"on c(p) deadline 0":                     {Channel: "c", Param: "p"},
		"on c(p) deadline 1":                     {Channel: "c", Param: "p", Deadline: 1},
		"on c(p) within 0 deadline 0":            {Channel: "c", Param: "p"},
		"on c(p) within 2 deadline 3":            {Channel: "c", Param: "p", Within: 2, Deadline: 3},
		"on c(p)within 32767deadline 32767":      {Channel: "c", Param: "p", Within: 32767, Deadline: 32767},
		"on c ( p ) within 32767 deadline 32767": {Channel: "c", Param: "p", Within: 32767, Deadline: 32767},
	} {
		want.Name, want.Pos = "t", 5
		accepted(t, "task t "+src+" { }", api.Program{Tasks: []api.Task{want}})
	}
}

// P17.2: int1 is at least 1, int at least 0, and only a signed integer has a minus sign.
func TestIntegersThatDoNotMatch(t *testing.T) {
	for src, pos := range map[string]int{
		"var v[0];":                             6,
		"var v[-1];":                            6,
		"var v[-0];":                            6,
		"channel h[-1];":                        10,
		"channel h[-0];":                        10,
		"task t every 0 { }":                    13,
		"task t every -1 { }":                   13,
		"task t every 1 deadline -1 { }":        24,
		"task t on c(p) within -1 { }":          22,
		"task t on c(p) within 1 deadline -1{}": 33,
		"task t every 1 { repeat -1 { } }":      24,
		"task t every 1 { fresh -1 { } }":       23,
		"task t every 1 { together -1 { } }":    26,
		"const c = --1;":                        11,
		"const c = !1;":                         10,
		"const c = +1;":                         10,
		"const c = (1);":                        10,
		"const c = 1 + 1;":                      12,
		"const c = d;":                          10,
		"var v = d;":                            8,
		"var v[n];":                             6,
		"task t every n { }":                    13,
		"task t every 1 { repeat n { } }":       24,
		"task t every 1 { repeat (1) { } }":     24,
	} {
		refused(t, src, pos)
	}
	for _, src := range []string{"const c = %s;", "const c = -%s;", "var v = %s;", "var v[%s];", "channel h[%s];", "task t every %s { }", "task t on c(p) within %s { }",
		"task t every 1 deadline %s { }", "task t every 1 { repeat %s { } fresh %s { } together %s { } }"} {
		for _, n := range []string{"0", "1", "2", "32766", "32767", "32768", "00", "01", "-0", "-1", "-32767", "-32768"} {
			checkParse(t, strings.ReplaceAll(src, "%s", n))
		}
	}
}

// P17.2: neither a variable with both a length and a value nor one in another order, and no annotation in another
// order, twice, or where there is none.
func TestOptionsThatDoNotMatch(t *testing.T) {
	for src, pos := range map[string]int{
		"var v[1] = 2;":               9,
		"var v = 2[1];":               9,
		"var v[];":                    6,
		"var v[1][2];":                8,
		"var v, w;":                   5,
		"const c;":                    7,
		"const c[1];":                 7,
		"sensor s[1];":                8,
		"output o = 1;":               9,
		"channel h;":                  9,
		"channel h = 1;":              10,
		"channel h[];":                10,
		"task t { }":                  7,
		"task t every { }":            13,
		"task t every 1 every 2 { }":  15,
		"task t every 1 within 2 { }": 15,
		"task t every 1 deadline 1 deadline 1 { }":      26,
		"task t every 1 deadline 1 within 1 { }":        26,
		"task t on c { }":                               12,
		"task t on c() { }":                             12,
		"task t on c(p, q) { }":                         13,
		"task t on c(1) { }":                            12,
		"task t on c(p) within 1 within 1 { }":          24,
		"task t on c(p) deadline 1 within 1 { }":        26,
		"task t on c(p) within { }":                     22,
		"task t on c(p) deadline { }":                   24,
		"task t on c(p) every 1 { }":                    15,
		"task t every 1;":                               14,
		"task t every 1 { };":                           18,
		"task t every 1 { } }":                          19,
		"var v;;":                                       6,
		";":                                             0,
		"x = 1;":                                        0,
		"let x = 1;":                                    0,
		"output o 1;":                                   9,
		"task t every 1 { output o; }":                  25,
		"task t every 1 { var v; }":                     17,
		"task t every 1 { ; }":                          17,
		"task t every 1 { { } }":                        17,
		"task t every 1 { 1; }":                         17,
		"task t every 1 { x; }":                         18,
		"task t every 1 { x[1]; }":                      21,
		"task t every 1 { x == 1; }":                    19,
		"task t every 1 { x[1][2] = 3; }":               21,
		"task t every 1 { let x[1] = 2; }":              22,
		"task t every 1 { let x; }":                     22,
		"task t every 1 { emit; }":                      21,
		"task t every 1 { emit x y; }":                  24,
		"task t every 1 { send 1 2; }":                  22,
		"task t every 1 { return 1; }":                  24,
		"task t every 1 { checkpoint 1; }":              28,
		"task t every 1 { else { } }":                   17,
		"task t every 1 { if a { } else { } else { } }": 35,
		"task t every 1 { if a { } else ; }":            31,
		"task t every 1 { if a { } else while a { } }":  31,
		"task t every 1 { if { } }":                     20,
		"task t every 1 { if a return; }":               22,
		"task t every 1 { if a { }; }":                  25,
		"task t every 1 { while { } }":                  23,
		"task t every 1 { repeat { } }":                 24,
		"task t every 1 { repeat 1 emit 1; }":           26,
		"task t every 1 { repeat 1 2 { } }":             26,
		"task t every 1 { fresh { } }":                  23,
		"task t every 1 { together { } }":               26,
		"task t every 1 { read(s); }":                   17,
		"task t every 1 { emit read s; }":               27,
		"task t every 1 { emit read(); }":               27,
		"task t every 1 { emit read(1); }":              27,
		"task t every 1 { emit read(s[1]); }":           28,
		"task t every 1 { emit a[]; }":                  24,
		"task t every 1 { emit a(); }":                  23,
		"task t every 1 { emit a[1][2]; }":              26,
		"task t every 1 { emit (a)[1]; }":               25,
		"task t every 1 { emit 1[2]; }":                 23,
		"task t every 1 { emit (); }":                   23,
		"task t every 1 { emit (a, b); }":               24,
		"task t every 1 { emit +a; }":                   22,
		"task t every 1 { emit a +; }":                  25,
		"task t every 1 { emit a = b; }":                24,
	} {
		refused(t, src, pos)
	}
}

// inTask returns a program of one task with some statements, which begin at offset 15 in its text.
func inTask(l ...api.Stmt) api.Program {
	return api.Program{Tasks: []api.Task{{Name: "t", Period: 1, Pos: 5, Body: l}}}
}

func taskText(body string) string { return "task t every 1{" + body + "}" }

// P17.1: the fields and positions of each kind of statement; all others are zero.
func TestStatements(t *testing.T) {
	for src, want := range map[string]api.Stmt{
		"let a=b;":     {Kind: api.StmtLet, Name: "a", Args: exprs(name("b", 21)), Pos: 15},
		"a=b;":         {Kind: api.StmtAssign, Name: "a", Args: exprs(name("b", 17)), Pos: 15},
		" a[b]=c;":     {Kind: api.StmtAssignAt, Name: "a", Args: exprs(name("b", 18), name("c", 21)), Pos: 16},
		"if a{}":       {Kind: api.StmtIf, Args: exprs(name("a", 18)), Pos: 15},
		"if a{}else{}": {Kind: api.StmtIf, Args: exprs(name("a", 18)), Pos: 15},
		"if a{return;}else{checkpoint;}": {Kind: api.StmtIf, Args: exprs(name("a", 18)), Pos: 15,
			Body: stmts(api.Stmt{Kind: api.StmtReturn, Pos: 20}), Else: stmts(api.Stmt{Kind: api.StmtBoundary, Pos: 33})},
		"if a{}else if b{}": {Kind: api.StmtIf, Args: exprs(name("a", 18)), Pos: 15,
			Else: stmts(api.Stmt{Kind: api.StmtIf, Args: exprs(name("b", 29)), Pos: 26})},
		"if a{}else{if b{}}": {Kind: api.StmtIf, Args: exprs(name("a", 18)), Pos: 15,
			Else: stmts(api.Stmt{Kind: api.StmtIf, Args: exprs(name("b", 29)), Pos: 26})},
		"if a{}else if b{}else{return;}": {Kind: api.StmtIf, Args: exprs(name("a", 18)), Pos: 15,
			Else: stmts(api.Stmt{Kind: api.StmtIf, Args: exprs(name("b", 29)), Pos: 26, Else: stmts(api.Stmt{Kind: api.StmtReturn, Pos: 37})})},
		"repeat 0{}":             {Kind: api.StmtRepeat, Pos: 15},
		"repeat 16{return;}":     {Kind: api.StmtRepeat, N: 16, Body: stmts(api.Stmt{Kind: api.StmtReturn, Pos: 25}), Pos: 15},
		"while a{}":              {Kind: api.StmtWhile, Args: exprs(name("a", 21)), Pos: 15},
		"while 1{return;}":       {Kind: api.StmtWhile, Args: exprs(num(1, 21)), Body: stmts(api.Stmt{Kind: api.StmtReturn, Pos: 23}), Pos: 15},
		"send a 1;":              {Kind: api.StmtSend, Name: "a", Args: exprs(num(1, 22)), Pos: 15},
		"\nemit 1;":              {Kind: api.StmtEmit, Args: exprs(num(1, 21)), Pos: 16},
		"output a 1;":            {Kind: api.StmtOutput, Name: "a", Args: exprs(num(1, 24)), Pos: 15},
		"fresh 1{}":              {Kind: api.StmtFresh, N: 1, Pos: 15},
		"fresh 32767{return;}":   {Kind: api.StmtFresh, N: 32767, Body: stmts(api.Stmt{Kind: api.StmtReturn, Pos: 27}), Pos: 15},
		"together 2{}":           {Kind: api.StmtTogether, N: 2, Pos: 15},
		"together 0{return;}":    {Kind: api.StmtTogether, Body: stmts(api.Stmt{Kind: api.StmtReturn, Pos: 26}), Pos: 15},
		"checkpoint;":            {Kind: api.StmtBoundary, Pos: 15},
		"//\ncheckpoint // ;\n;": {Kind: api.StmtBoundary, Pos: 18},
		"return;":                {Kind: api.StmtReturn, Pos: 15},
	} {
		accepted(t, taskText(src), inTask(want))
	}
	accepted(t, taskText("return;return;checkpoint;"), inTask(
		api.Stmt{Kind: api.StmtReturn, Pos: 15}, api.Stmt{Kind: api.StmtReturn, Pos: 22}, api.Stmt{Kind: api.StmtBoundary, Pos: 29}))
}

// P17.1: an element and a value that begin with a parenthesis or a sign.
func TestArgumentsBehindNames(t *testing.T) {
	for _, body := range []string{
		"send a -1;", "send a (1);", "send a !b;", "send a a[1];", "send a read(b);", "output a - - 1;", "output a ((b));", "emit -1;", "emit (1);",
		"a[-1]=-1;", "a[(1)]=(1);", "let a=-1;", "a=(b<c);", "if(a){}", "if-a{}", "while!a{}", "while(a)<b{}",
	} {
		if l := checkParse(t, taskText(body)); len(l) > 0 {
			t.Errorf("%q: %v", body, l)
		}
	}
}

// P17.1, P17.2: the document's program, its tree and all positions, by hand.
func TestDocument(t *testing.T) {
	accepted(t, documentText, document())
	for i := range documentText {
		checkParse(t, documentText[:i])
		checkParse(t, documentText[i:])
	}
}

// P17.1: declarations appear by kind, each kind in source order.
func TestMixedDeclarations(t *testing.T) {
	src := "task a every 1{}output b;var c;channel d[1];const e=1;sensor f;const g=2;task h on i(j){}channel k[2];output l;sensor m;var n[3];"
	at := func(text string) int { return strings.Index(src, text) }
	accepted(t, src, api.Program{
		Consts:   []api.Const{{Name: "e", Value: 1, Pos: at("e=1")}, {Name: "g", Value: 2, Pos: at("g=2")}},
		Globals:  []api.Global{{Name: "c", Pos: at("c;")}, {Name: "n", Len: 3, Pos: at("n[3]")}},
		Sensors:  []string{"f", "m"},
		Outputs:  []string{"b", "l"},
		Channels: []api.Channel{{Name: "d", Cap: 1, Pos: at("d[1]")}, {Name: "k", Cap: 2, Pos: at("k[2]")}},
		Tasks:    []api.Task{{Name: "a", Period: 1, Pos: 5}, {Name: "h", Channel: "i", Param: "j", Pos: at("h on")}},
	})
	declarations := []string{"const a = 1;", "var b;", "var c[2];", "sensor d;", "output e;", "channel f[3];", "task g every 4 { return; }"}
	for i := range 7 * 7 * 7 * 7 {
		src := ""
		for range 4 {
			src += declarations[i%7]
			i /= 7
		}
		if l := checkParse(t, src); len(l) > 0 {
			t.Errorf("Parse(%q): %v", src, l)
		}
	}
}

// P17.1, P17.2: names may be declared twice or not at all; the parser does not look at their meaning.
func TestNamesWithoutMeaning(t *testing.T) {
	for _, src := range []string{"var a; var a; sensor a; task a every 1 { }", "task t every 1 { u = v; send w x[y]; emit read(z); }", "task t on nothing(t) { let t = t; }"} {
		if l := checkParse(t, src); len(l) > 0 {
			t.Errorf("Parse(%q): %v", src, l)
		}
	}
}

// P17.1, P17.2: an identifier that is a keyword with one byte more or less is a name everywhere, a keyword nowhere.
func TestNamesNextToKeywords(t *testing.T) {
	places := []string{"const %s = 1;", "var %s;", "var %s[1];", "sensor %s;", "output %s;", "channel %s[1];", "task %s every 1 { }", "task t on %s(p) { }", "task t on c(%s) { }"}
	for _, body := range []string{"let %s = 1;", "%s = 1;", "%s[1] = 1;", "send %s 1;", "output %s 1;", "emit %s;", "emit %s[1];", "emit read(%s);", "if %s < %s { }", "while %s { }"} {
		places = append(places, taskText(body))
	}
	for _, k := range strings.Fields(keywords) {
		for _, place := range places {
			for _, id := range []string{k + "s", k + "_", k + "0", "_" + k, k[1:], k[:len(k)-1], strings.ToUpper(k)} {
				src := strings.ReplaceAll(place, "%s", id)
				isKeyword := strings.Contains(" "+keywords+" ", " "+id+" ")
				if l := checkParse(t, src); (len(l) > 0) != isKeyword {
					t.Errorf("Parse(%q): %v", src, l)
				}
			}
			src := strings.ReplaceAll(place, "%s", k)
			if l := checkParse(t, src); len(l) != 1 {
				t.Errorf("Parse(%q): %v", src, l)
			}
		}
	}
}

// compounds are statements with blocks, with a place for statements.
var compounds = []string{"if a { % }", "if a { } else { % }", "if a { % } else { % }", "if a { } else if b { % }", "if a { } else if b { } else { % }", "repeat 1 { % }", "while a { % }", "fresh 2 { % }", "together 3 { % }"}

// simples are statements without blocks.
var simples = []string{"", "let a = 1;", "a = 1;", "a[1] = 2;", "send a 1;", "emit 1;", "output a 1;", "checkpoint;", "return;"}

// P17.1: each kind of statement inside each other one, several deep, and behind each other one.
func TestStatementsInStatements(t *testing.T) {
	inner := append([]string{}, simples...)
	for range 2 {
		var outer []string
		for _, c := range compounds {
			for _, s := range inner {
				outer = append(outer, strings.ReplaceAll(c, "%", s))
			}
		}
		inner = append(inner, outer...)
	}
	for _, s := range inner {
		if l := checkParse(t, taskText(s)); len(l) > 0 {
			t.Errorf("%q: %v", s, l)
		}
	}
	for _, c := range compounds {
		for _, s := range inner[:100] {
			if l := checkParse(t, taskText(s+strings.ReplaceAll(c, "%", s+s)+s)); len(l) > 0 {
				t.Errorf("%q behind %q: %v", c, s, l)
			}
		}
	}
}

// P17.1: chains of else if are nested in Else; a block that consists of an if statement makes the same tree.
func TestElseIf(t *testing.T) {
	for n := 1; n <= 30; n++ {
		chain := "if x0 { emit 0; }"
		nested := chain
		for i := 1; i <= n; i++ {
			next := fmt.Sprintf("if x%d { emit %d; }", i, i)
			chain += " else " + next
			nested += " else { " + next
		}
		for _, last := range []string{"", " else { }", " else { return; }", " else { return; return; }"} {
			p, l := Parse(taskText(chain + last))
			q, m := Parse(taskText(nested + last + strings.Repeat(" }", n)))
			if len(l) > 0 || len(m) > 0 || !ast.Equal(p, q) {
				t.Fatalf("%d levels of else if: %v, %v", n, l, m)
			}
			checkParse(t, taskText(chain+last))
			checkParse(t, taskText(chain+last+" else { }"))
		}
	}
}

// P17.1, P1: statements inside statements, up to as many levels as MaxSource bytes can hold.
func TestDeepStatements(t *testing.T) {
	for _, n := range []struct {
		before, after string
		around        func(api.Stmt) api.Stmt
	}{
		{"if a{", "}", func(s api.Stmt) api.Stmt {
			return api.Stmt{Kind: api.StmtIf, Args: exprs(name("a", 0)), Body: stmts(s)}
		}},
		{"if a{}else{", "}", func(s api.Stmt) api.Stmt {
			return api.Stmt{Kind: api.StmtIf, Args: exprs(name("a", 0)), Else: stmts(s)}
		}},
		{"repeat 1{", "}", func(s api.Stmt) api.Stmt { return api.Stmt{Kind: api.StmtRepeat, N: 1, Body: stmts(s)} }},
		{"while a{", "}", func(s api.Stmt) api.Stmt {
			return api.Stmt{Kind: api.StmtWhile, Args: exprs(name("a", 0)), Body: stmts(s)}
		}},
		{"fresh 0{", "}", func(s api.Stmt) api.Stmt { return api.Stmt{Kind: api.StmtFresh, Body: stmts(s)} }},
		{"together 0{", "}", func(s api.Stmt) api.Stmt { return api.Stmt{Kind: api.StmtTogether, Body: stmts(s)} }},
	} {
		s := api.Stmt{Kind: api.StmtReturn}
		levels := 0
		for _, most := range []int{1, 2, 3, 10, 100, (api.MaxSource - len(taskText("return;"))) / len(n.before+n.after)} {
			for ; levels < most; levels++ {
				s = n.around(s)
			}
			src := taskText(strings.Repeat(n.before, levels) + "return;" + strings.Repeat(n.after, levels))
			p, l := Parse(src)
			if len(l) > 0 || !ast.Equal(p, inTask(s)) {
				t.Fatalf("%d levels of %q: %v", levels, n.before, l)
			}
			refusedDeep(t, src[:len(src)-1], len(src)-1)
			refusedDeep(t, strings.Replace(src, "return;", "return", 1), strings.Index(src, "return")+6)
			refusedDeep(t, strings.Replace(src, "return;", "(", 1), strings.Index(src, "return"))
		}
	}
	chain := "if a{}" + strings.Repeat("else if a{}", 1480)
	if p, l := Parse(taskText(chain)); len(l) > 0 || ast.Depth(p) != 1482 || ast.Size(p) != 2*1481 {
		t.Errorf("a long chain of else if: %v", l)
	}
}

// refusedDeep is refused without the model, for which such trees are too deep.
func refusedDeep(t *testing.T, src string, pos int) {
	t.Helper()
	p, l := Parse(src)
	if !same(l, []api.Diagnostic{{Pos: pos, Text: "syntax error"}}) || !same(p, api.Program{}) {
		t.Fatalf("Parse of %d bytes: %v, not a syntax error at %d", len(src), l, pos)
	}
}

// P17.1, P17.2: all short sequences of tokens that could begin a program or the statements of a task, and each of
// them with one more token of any kind.
func TestShortPrograms(t *testing.T) {
	for start, most := range map[string]int{
		"": 6, "task t every 1 {": 4, "task t every 1 { if a { } else": 3, "task t on c(p)": 4, "task t every 1 { a[b": 3, "var v; task": 4,
	} {
		l := begin("program")
		for _, token := range lexer.Scan(start)[:len(texts(start))] {
			l = after(l, token)
		}
		extendProgram(t, l, start, most)
	}
}

func extendProgram(t *testing.T, l []derivation, src string, more int) {
	t.Helper()
	checkParse(t, src)
	if more == 0 {
		return
	}
	for _, text := range vocabulary() {
		if next := after(l, lexer.Scan(text)[0]); len(next) > 0 {
			extendProgram(t, next, src+" "+text, more-1)
		} else {
			checkParse(t, src+" "+text)
		}
	}
}
