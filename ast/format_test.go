package ast

import (
	"fmt"
	"slices"
	"strings"
	"testing"

	"trickle/api"
)

// checkFormat checks the canonical text of a program, and that it is read as this program.
func checkFormat(t *testing.T, p api.Program, want string) {
	t.Helper()
	if got := Format(p); got != want {
		t.Fatalf("Format(%+v) = %q, want %q", p, got, want)
	}
	if again := readProgram(want); !same(again, p) || !Equal(again, p) {
		t.Fatalf("%q is read as %+v, not as %+v", want, again, p)
	}
	if !checkProgram(t, p) {
		t.Fatalf("%+v is not well-formed", p)
	}
}

// inTask returns the text of a program of tasked from the lines of its statements.
func inTask(lines ...string) string {
	return strings.Join(slices.Concat([]string{"task t every 1 {"}, in(lines...), []string{"}\n"}), "\n")
}

// P16.1: the program of the document's overview.
func TestFormatDocument(t *testing.T) {
	p, text := document()
	checkFormat(t, p, text)
	checkFormat(t, sample(), programText(sample()))
}

// P16.1: the empty program, and programs without statements.
func TestFormatDeclarations(t *testing.T) {
	for _, p := range []api.Program{{}, {Consts: []api.Const{}, Globals: []api.Global{}, Sensors: []string{}, Outputs: []string{}, Channels: []api.Channel{}, Tasks: []api.Task{}}} {
		checkFormat(t, p, "")
	}
	task := func(x api.Task) api.Program { return api.Program{Tasks: []api.Task{x}} }
	for _, c := range []struct {
		p    api.Program
		want string
	}{
		{api.Program{Consts: []api.Const{{Name: "A"}}}, "const A = 0;\n"},
		{api.Program{Consts: []api.Const{{Name: "A", Value: 32767}, {Name: "B", Value: -32767}, {Name: "A", Value: -1}}}, "const A = 32767;\nconst B = -32767;\nconst A = -1;\n"},
		{api.Program{Globals: []api.Global{{Name: "x"}}}, "var x;\n"},
		{api.Program{Globals: []api.Global{{Name: "x", Init: 1}, {Name: "y", Init: -1}, {Name: "z", Init: 32767}, {Name: "z", Init: -32767}}}, "var x = 1;\nvar y = -1;\nvar z = 32767;\nvar z = -32767;\n"},
		{api.Program{Globals: []api.Global{{Name: "x", Len: 1}, {Name: "y", Len: 32767}, {Name: "z", Len: 64}}}, "var x[1];\nvar y[32767];\nvar z[64];\n"},
		{api.Program{Sensors: []string{"s", "r", "s"}}, "sensor s;\nsensor r;\nsensor s;\n"},
		{api.Program{Outputs: []string{"p", "o", "p"}}, "output p;\noutput o;\noutput p;\n"},
		{api.Program{Channels: []api.Channel{{Name: "c"}, {Name: "b", Cap: 1}, {Name: "c", Cap: 32767}}}, "channel c[0];\nchannel b[1];\nchannel c[32767];\n"},
		{task(api.Task{Name: "t", Period: 1}), "task t every 1 {\n}\n"},
		{task(api.Task{Name: "t", Period: 32767, Deadline: 1}), "task t every 32767 deadline 1 {\n}\n"},
		{task(api.Task{Name: "t", Period: 10, Deadline: 32767}), "task t every 10 deadline 32767 {\n}\n"},
		{task(api.Task{Name: "t", Channel: "c", Param: "p"}), "task t on c(p) {\n}\n"},
		{task(api.Task{Name: "t", Channel: "c", Param: "p", Within: 1}), "task t on c(p) within 1 {\n}\n"},
		{task(api.Task{Name: "t", Channel: "c", Param: "p", Deadline: 1}), "task t on c(p) deadline 1 {\n}\n"},
		{task(api.Task{Name: "t", Channel: "c", Param: "c", Within: 32767, Deadline: 32767}), "task t on c(c) within 32767 deadline 32767 {\n}\n"},
		{api.Program{Tasks: []api.Task{{Name: "b", Period: 2}, {Name: "a", Channel: "c", Param: "p", Within: 3, Deadline: 4, Body: list(back())}, {Name: "a", Period: 5, Body: list(checkpoint())}}},
			"task b every 2 {\n}\ntask a on c(p) within 3 deadline 4 {\n    return;\n}\ntask a every 5 {\n    checkpoint;\n}\n"},
		{api.Program{Tasks: []api.Task{{Name: "t", Period: 1}}, Channels: []api.Channel{{Name: "c"}}, Outputs: []string{"o"}, Sensors: []string{"s"}, Globals: []api.Global{{Name: "g"}}, Consts: []api.Const{{Name: "k"}}},
			"const k = 0;\nvar g;\nsensor s;\noutput o;\nchannel c[0];\ntask t every 1 {\n}\n"},
	} {
		checkFormat(t, c.p, c.want)
	}
}

// simple are the statements of one line, and their lines.
func simple() ([]api.Stmt, []string) {
	sum := binary(api.OpAdd, name("a"), num(1))
	product := binary(api.OpMul, sum, sum)
	return list(let("x", sum), assign("x", product), assignAt("h", sum, product), send("c", product), emit(sum), output("o", product), checkpoint(), back(),
			let("x", num(0)), assign("_", read("s")), assignAt("h", index("h", num(1)), unary(api.OpNeg, num(5))), send("c", unary(api.OpNeg, num(1))), emit(read("s")), output("o", unary(api.OpNot, name("b")))),
		strings.Split("let x = a + 1;|x = (a + 1) * (a + 1);|h[a + 1] = (a + 1) * (a + 1);|send c (a + 1) * (a + 1);|emit a + 1;|output o (a + 1) * (a + 1);|checkpoint;|return;|"+
			"let x = 0;|_ = read(s);|h[h[1]] = -5;|send c -1;|emit read(s);|output o !b;", "|")
}

// P16.1: each statement of one line alone, all of them in order, and each inside each compound statement.
func TestFormatStatements(t *testing.T) {
	checkFormat(t, tasked(), inTask())
	all, lines := simple()
	checkFormat(t, tasked(all...), inTask(lines...))
	checkFormat(t, tasked(repeat(2, all...), back()), inTask(append(append([]string{"repeat 2 {"}, in(lines...)...), "}", "return;")...))
	c := binary(api.OpLt, name("a"), num(3))
	for i, s := range all {
		checkFormat(t, tasked(s), inTask(lines[i]))
		checkFormat(t, tasked(back(), s, s), inTask("return;", lines[i], lines[i]))
		for head, compound := range map[string]func(...api.Stmt) api.Stmt{
			"if a < 3 {":          func(l ...api.Stmt) api.Stmt { return choice(c, l, nil) },
			"repeat 0 {":          func(l ...api.Stmt) api.Stmt { return repeat(0, l...) },
			"repeat 32767 {":      func(l ...api.Stmt) api.Stmt { return repeat(32767, l...) },
			"while a < 3 {":       func(l ...api.Stmt) api.Stmt { return while(c, l...) },
			"fresh 40 {":          func(l ...api.Stmt) api.Stmt { return fresh(40, l...) },
			"together 500 {":      func(l ...api.Stmt) api.Stmt { return together(500, l...) },
			"while read(s) {":     func(l ...api.Stmt) api.Stmt { return while(read("s"), l...) },
			"if -a {":             func(l ...api.Stmt) api.Stmt { return choice(unary(api.OpNeg, name("a")), l, nil) },
			"while (a < 3) < 3 {": func(l ...api.Stmt) api.Stmt { return while(binary(api.OpLt, c, num(3)), l...) },
		} {
			checkFormat(t, tasked(compound()), inTask(head, "}"))
			checkFormat(t, tasked(compound(s)), inTask(head, "    "+lines[i], "}"))
			checkFormat(t, tasked(s, compound(s, back()), s), inTask(lines[i], head, "    "+lines[i], "    return;", "}", lines[i]))
			checkFormat(t, tasked(compound(compound(compound(compound(), s)), s)), inTask(head, "    "+head, "        "+head, "            "+head, "            }", "            "+lines[i], "        }", "    }", "    "+lines[i], "}"))
		}
	}
}

// in returns lines inside one more pair of braces.
func in(lines ...string) []string {
	var all []string
	for _, line := range lines {
		all = append(all, "    "+line)
	}
	return all
}

// P16.1: if statements with all kinds of Else.
func TestFormatElse(t *testing.T) {
	a, b, c := name("a"), name("b"), name("c")
	e := func(n int16) []api.Stmt { return list(emit(num(n))) }
	for _, x := range []struct {
		l    []api.Stmt
		want string
	}{
		{list(choice(a, nil, nil)), "if a {~}"},
		{list(choice(a, e(1), nil)), "if a {~    emit 1;~}"},
		{list(choice(a, e(1), []api.Stmt{})), "if a {~    emit 1;~}"},
		{list(choice(a, nil, e(2))), "if a {~} else {~    emit 2;~}"},
		{list(choice(a, e(1), e(2))), "if a {~    emit 1;~} else {~    emit 2;~}"},
		{list(choice(a, nil, list(choice(b, nil, nil)))), "if a {~} else if b {~}"},
		{list(choice(a, e(1), list(choice(b, e(2), nil)))), "if a {~    emit 1;~} else if b {~    emit 2;~}"},
		{list(choice(a, e(1), list(choice(b, e(2), e(3))))), "if a {~    emit 1;~} else if b {~    emit 2;~} else {~    emit 3;~}"},
		{list(choice(a, e(1), list(choice(b, e(2), list(choice(c, e(3), nil)))))), "if a {~    emit 1;~} else if b {~    emit 2;~} else if c {~    emit 3;~}"},
		{list(choice(a, e(1), list(choice(b, e(2), list(choice(c, e(3), e(4))))))), "if a {~    emit 1;~} else if b {~    emit 2;~} else if c {~    emit 3;~} else {~    emit 4;~}"},
		{list(choice(a, nil, list(choice(b, nil, list(choice(c, nil, list(choice(a, nil, nil)))))))), "if a {~} else if b {~} else if c {~} else if a {~}"},
		{list(choice(a, nil, list(repeat(3)))), "if a {~} else {~    repeat 3 {~    }~}"},
		{list(choice(a, nil, list(while(b, choice(c, nil, nil))))), "if a {~} else {~    while b {~        if c {~        }~    }~}"},
		{list(choice(a, nil, list(fresh(1, choice(c, nil, list(choice(b, nil, nil))))))), "if a {~} else {~    fresh 1 {~        if c {~        } else if b {~        }~    }~}"},
		{list(choice(a, nil, list(choice(b, nil, nil), back()))), "if a {~} else {~    if b {~    }~    return;~}"},
		{list(choice(a, nil, list(choice(b, nil, nil), choice(c, nil, nil)))), "if a {~} else {~    if b {~    }~    if c {~    }~}"},
		{list(choice(a, nil, list(back(), choice(b, nil, nil)))), "if a {~} else {~    return;~    if b {~    }~}"},
		{list(choice(a, nil, list(choice(b, nil, list(choice(c, nil, nil), back()))))), "if a {~} else if b {~} else {~    if c {~    }~    return;~}"},
		{list(choice(a, nil, list(choice(b, nil, list(back())), back()))), "if a {~} else {~    if b {~    } else {~        return;~    }~    return;~}"},
		{list(choice(a, list(choice(b, nil, nil)), nil)), "if a {~    if b {~    }~}"},
		{list(choice(a, list(choice(b, e(1), e(2))), e(3))), "if a {~    if b {~        emit 1;~    } else {~        emit 2;~    }~} else {~    emit 3;~}"},
		{list(choice(a, list(choice(b, nil, list(choice(c, nil, e(1))))), list(choice(b, list(choice(c, nil, nil)), e(2))))), "if a {~    if b {~    } else if c {~    } else {~        emit 1;~    }~} else if b {~    if c {~    }~} else {~    emit 2;~}"},
		{list(choice(a, nil, nil), choice(b, nil, nil), choice(c, nil, e(1)), back()), "if a {~}~if b {~}~if c {~} else {~    emit 1;~}~return;"},
		{list(choice(binary(api.OpOr, a, binary(api.OpOr, b, c)), nil, list(choice(binary(api.OpEq, a, unary(api.OpNot, b)), nil, nil)))), "if a || (b || c) {~} else if a == !b {~}"},
	} {
		lines := strings.Split(x.want, "~")
		checkFormat(t, tasked(x.l...), inTask(lines...))
		checkFormat(t, tasked(together(9, x.l...)), inTask(append(append([]string{"together 9 {"}, in(lines...)...), "}")...))
		checkFormat(t, tasked(choice(a, x.l, append(list(back()), x.l...))), inTask(slices.Concat([]string{"if a {"}, in(lines...), []string{"} else {", "    return;"}, in(lines...), []string{"}"})...))
	}
}

// listsOf returns all lists of so many statements, at any depth, made of a few kinds.
func listsOf(n int, known map[int][][]api.Stmt) [][]api.Stmt {
	if n == 0 {
		return [][]api.Stmt{nil}
	}
	if known[n] != nil {
		return known[n]
	}
	var all [][]api.Stmt
	for first := 1; first <= n; first++ {
		var heads []api.Stmt
		if first == 1 {
			heads = append(heads, emit(num(1)), back())
		}
		for _, body := range listsOf(first-1, known) {
			heads = append(heads, while(name("a"), body...), repeat(1, body...))
		}
		for then := range first {
			for _, body := range listsOf(then, known) {
				for _, other := range listsOf(first-1-then, known) {
					heads = append(heads, choice(name("a"), body, other))
				}
			}
		}
		for _, head := range heads {
			for _, rest := range listsOf(n-first, known) {
				all = append(all, append(list(head), rest...))
			}
		}
	}
	known[n] = all
	return all
}

// P16.1, P16.2: all lists of up to five statements of a few kinds: all texts are as defined, and all differ.
func TestAllSmallLists(t *testing.T) {
	texts := map[string]bool{}
	known := map[int][][]api.Stmt{}
	for n := range 6 {
		for _, l := range listsOf(n, known) {
			p := tasked(l...)
			text := Format(p)
			if text != programText(p) || texts[text] {
				t.Fatalf("Format(%+v) = %q, want %q", p, text, programText(p))
			}
			if n <= 4 && !same(readProgram(text), p) {
				t.Fatalf("%q is not read as %+v", text, p)
			}
			texts[text] = true
		}
	}
	if len(texts) < 100000 {
		t.Errorf("only %d lists", len(texts))
	}
}

// P16.1, P16.2: every list of the sample that is empty is nil, empty, or empty with memory behind it, and every list
// is nil or empty: texts and trees are equal to each other.
func TestNilAndEmpty(t *testing.T) {
	p := sample()
	text := Format(p)
	for _, s := range sites(&p) {
		if s.value.Kind().String() != "slice" {
			continue
		}
		undo := restore(s.value)
		var first api.Program
		for i, set := range settings(s.value)[1:4] {
			set(s.value)
			if i == 0 {
				first = exact(p)
			}
			if !Equal(p, first) || !Equal(first, p) || Format(p) != Format(first) || WellFormed(p) != WellFormed(first) || Size(p) != Size(first) || Depth(p) != Depth(first) {
				t.Fatalf("%s: nil and empty differ", s.path)
			}
			undo()
		}
	}
	if Format(p) != text {
		t.Error("the sample has changed")
	}
	if a, b := (api.Expr{Kind: 2, Name: "a"}), (api.Expr{Kind: 2, Name: "a", Args: []api.Expr{}}); !EqualExpr(a, b) || !EqualExpr(b, a) || Expr(b) != "a" {
		t.Error("nil and empty arguments differ")
	}
}

// P16.2: the texts of random programs, and of random changes of them, are equal if and only if the programs are.
func TestTextsAtRandom(t *testing.T) {
	g := generator(4)
	before := api.Program{}
	changed, equal := 0, 0
	for range 3000 {
		p := g.program()
		checkFormat(t, p, programText(p))
		q := change(&g, p)
		for range 5 {
			if WellFormed(q) {
				changed++
				break
			}
			q = change(&g, p)
		}
		checkProgram(t, q)
		for _, other := range []api.Program{q, before} {
			same := checkEqual(t, p, other)
			if same {
				equal++
			}
			if WellFormed(other) && (Format(p) == Format(other)) != same {
				t.Fatalf("%q and %q are the texts of\n%+v and\n%+v", Format(p), Format(other), p, other)
			}
		}
		before = p
	}
	if changed < 1000 || equal < 300 {
		t.Errorf("%d changed programs, %d equal ones", changed, equal)
	}
}

// P16.2: all pairs of short programs, of which many are equal.
func TestTextsOfPairs(t *testing.T) {
	g := generator(5)
	var all []api.Program
	for range 80 {
		p := g.program()
		p.Consts, p.Globals, p.Sensors, p.Outputs, p.Channels = cut(&g, p.Consts), cut(&g, p.Globals), cut(&g, p.Sensors), cut(&g, p.Outputs), cut(&g, p.Channels)
		p.Tasks = cut(&g, p.Tasks)
		all = append(all, p, Strip(p), change(&g, p), change(&g, p), change(&g, p))
	}
	for _, p := range all {
		for _, q := range all {
			equal := checkEqual(t, p, q)
			if WellFormed(p) && WellFormed(q) && (Format(p) == Format(q)) != equal {
				t.Fatalf("%q and %q are the texts of\n%+v and\n%+v", Format(p), Format(q), p, q)
			}
		}
	}
}

// cut returns the first element of a list, or none.
func cut[T any](g *generator, l []T) []T { return l[:min(len(l), g.below(2))] }

// P16.1: the numbers in a text have no signs but a minus, and no leading zeros.
func TestNumbersInTexts(t *testing.T) {
	for n := 1; n <= 32767; n++ {
		p := api.Program{Globals: []api.Global{{Name: "v", Len: n}}, Channels: []api.Channel{{Name: "c", Cap: n}}, Tasks: []api.Task{
			{Name: "t", Period: n, Deadline: n, Body: list(repeat(n), fresh(n), together(n))}, {Name: "t", Channel: "c", Param: "p", Within: n, Deadline: n}}}
		want := strings.ReplaceAll("var v[N];\nchannel c[N];\ntask t every N deadline N {\n    repeat N {\n    }\n    fresh N {\n    }\n    together N {\n    }\n}\ntask t on c(p) within N deadline N {\n}\n", "N", fmt.Sprint(n))
		if got := Format(p); got != want {
			t.Fatalf("Format(%+v) = %q, want %q", p, got, want)
		}
	}
}
