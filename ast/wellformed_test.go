package ast

import (
	"fmt"
	"math"
	"reflect"
	"slices"
	"testing"

	"trickle/api"
)

// places returns programs that have a name at each place of an identifier.
func places(s string) map[string]api.Program {
	all := map[string]api.Program{
		"constant": {Consts: []api.Const{{Name: s}}},
		"variable": {Globals: []api.Global{{Name: s}}},
		"array":    {Globals: []api.Global{{Name: s, Len: 2}}},
		"sensor":   {Sensors: []string{s}},
		"output":   {Outputs: []string{s}},
		"channel":  {Channels: []api.Channel{{Name: s, Cap: 1}}},
		"task":     {Tasks: []api.Task{{Name: s, Period: 1}}},
		"trigger":  {Tasks: []api.Task{{Name: "t", Channel: s, Param: "p"}}},
		"message":  {Tasks: []api.Task{{Name: "t", Channel: "c", Param: s}}},
	}
	for what, stmt := range map[string]api.Stmt{
		"let": let(s, num(1)), "assignment": assign(s, num(1)), "element": assignAt(s, num(1), num(2)), "send": send(s, num(1)), "port": output(s, num(1)),
		"value": emit(name(s)), "index": emit(index(s, num(1))), "reading": emit(read(s)),
		"second argument": assignAt("a", num(1), name(s)), "condition": choice(name(s), nil, nil), "loop": while(name(s)),
		"body": fresh(1, together(2, send(s, num(1)))), "else": choice(num(1), nil, list(back(), let(s, num(1)))),
	} {
		all[what] = tasked(stmt)
	}
	return all
}

// P16.1: identifiers and other texts at each place of an identifier.
func TestNames(t *testing.T) {
	for _, s := range names() {
		for what, p := range places(s) {
			if got := checkProgram(t, p); got != isName(s) {
				t.Fatalf("%q as the name of a %s: well-formed is %v", s, what, got)
			}
		}
	}
}

// P16.1: identifiers decided by hand.
func TestNamesByHand(t *testing.T) {
	const x32 = "xxxxxxxxxxxxxxxxxxxxxxxxxxxxxxxx"
	for _, c := range []struct {
		name string
		want bool
	}{
		{"", false}, {"a", true}, {"Z", true}, {"_", true}, {"5", false}, {"a5", true}, {"5a", false}, {"_5", true}, {"-", false}, {"é", false},
		{x32, true}, {x32[1:], true}, {x32 + "x", false}, {x32 + x32, false}, {"1" + x32[1:], false}, {"_" + x32[1:], true}, {"_" + x32, false},
		{"channel", false}, {"checkpoint", false}, {"const", false}, {"deadline", false}, {"else", false}, {"emit", false}, {"every", false}, {"fresh", false}, {"if", false}, {"let", false}, {"on", false}, {"output", false}, {"read", false}, {"repeat", false}, {"return", false}, {"send", false}, {"sensor", false}, {"task", false}, {"together", false}, {"var", false}, {"while", false}, {"within", false},
		{"channels", true}, {"channe", true}, {"Channel", true}, {"CHANNEL", true}, {"iF", true}, {"i", true}, {"n", true}, {"o", true}, {"o_n", true}, {"withi", true}, {"withinn", true}, {"for", true}, {"int", true}, {"true", true},
		{"a b", false}, {"a\t", false}, {" a", false}, {"a;", false}, {"a[1]", false}, {"if ", false}, {"a\x00", false}, {"\x00", false}, {"\xff", false},
	} {
		for what, p := range places(c.name) {
			if got := WellFormed(p); got != c.want {
				t.Errorf("%q as the name of a %s: well-formed is %v", c.name, what, got)
			}
		}
	}
}

// P16.1: each byte alone, as the first, the second and the last byte of a name, and each pair of some bytes.
func TestBytesOfNames(t *testing.T) {
	for n := range 256 {
		b := string([]byte{byte(n)})
		digit := '0' <= n && n <= '9'
		letter := 'a' <= n && n <= 'z' || 'A' <= n && n <= 'Z' || n == '_'
		for s, want := range map[string]bool{b: letter, b + "a": letter, "a" + b: letter || digit, "a" + b + "0": letter || digit, "_9" + b: letter || digit, "7" + b: false} {
			for what, p := range places(s) {
				if got := WellFormed(p); got != want {
					t.Errorf("%q as the name of a %s: well-formed is %v", s, what, got)
				}
			}
		}
	}
}

// fits checks that programs are well-formed for the numbers of a range alone.
func fits(t *testing.T, what string, lo, hi int, program func(n int) api.Program) {
	t.Helper()
	var all []int
	for _, n := range append(edges(), int64(lo)-2, int64(lo)-1, int64(lo), int64(lo)+1, int64(hi)-1, int64(hi), int64(hi)+1, int64(hi)+2) {
		all = append(all, int(n))
	}
	for n := -300; n <= 300; n++ {
		all = append(all, n, lo+n, hi+n)
	}
	for _, n := range all {
		p := program(n)
		want := lo <= n && n <= hi
		if got := WellFormed(p); got != want || (Format(p) != "") != want {
			t.Errorf("%s %d: well-formed is %v, with the text %q", what, n, got, Format(p))
		}
		checkProgram(t, p)
	}
}

// P16.1: each number of a declaration or statement at both ends of its range and outside.
func TestNumbers(t *testing.T) {
	const most = 32767
	fits(t, "Len", 0, most, func(n int) api.Program { return api.Program{Globals: []api.Global{{Name: "v", Len: n}}} })
	fits(t, "Len with Init", 0, 0, func(n int) api.Program { return api.Program{Globals: []api.Global{{Name: "v", Len: n, Init: 1}}} })
	fits(t, "Cap", 0, most, func(n int) api.Program { return api.Program{Channels: []api.Channel{{Name: "c", Cap: n}}} })
	for _, deadline := range []int{0, 1, most} {
		fits(t, "Period", 1, most, func(n int) api.Program {
			return api.Program{Tasks: []api.Task{{Name: "t", Period: n, Deadline: deadline}}}
		})
		for _, within := range []int{0, 1, most} {
			task := api.Task{Name: "t", Channel: "c", Param: "p", Within: within, Deadline: deadline}
			fits(t, "Period with a channel", 0, 0, func(n int) api.Program { return taskWith(task, func(t *api.Task) { t.Period = n }) })
			fits(t, "Within", 0, most, func(n int) api.Program { return taskWith(task, func(t *api.Task) { t.Within = n }) })
			fits(t, "Deadline", 0, most, func(n int) api.Program { return taskWith(task, func(t *api.Task) { t.Deadline = n }) })
		}
	}
	fits(t, "Deadline with a period", 0, most, func(n int) api.Program { return api.Program{Tasks: []api.Task{{Name: "t", Period: 1, Deadline: n}}} })
	fits(t, "Within with a period", 0, 0, func(n int) api.Program { return api.Program{Tasks: []api.Task{{Name: "t", Period: 1, Within: n}}} })
	for _, s := range everyStmt() {
		hi := 0
		if s.Kind == api.StmtRepeat || s.Kind == api.StmtFresh || s.Kind == api.StmtTogether {
			hi = most
		}
		fits(t, fmt.Sprint("N of kind ", s.Kind), 0, hi, func(n int) api.Program {
			s.N = n
			return tasked(s)
		})
	}
}

// taskWith returns a program of a task that differs in something.
func taskWith(task api.Task, differ func(*api.Task)) api.Program {
	differ(&task)
	return api.Program{Tasks: []api.Task{task}}
}

// P16.1: all values of constants and initial values.
func TestValues(t *testing.T) {
	for n := math.MinInt16; n <= math.MaxInt16; n++ {
		v := int16(n)
		c := api.Program{Consts: []api.Const{{Name: "c", Value: v}}}
		scalar := api.Program{Globals: []api.Global{{Name: "v", Init: v}}}
		array := api.Program{Globals: []api.Global{{Name: "v", Init: v, Len: 1}}}
		ok := n > math.MinInt16
		if WellFormed(c) != ok || WellFormed(scalar) != ok || WellFormed(array) != (n == 0) {
			t.Fatalf("value %d: %v, %v, %v", n, WellFormed(c), WellFormed(scalar), WellFormed(array))
		}
		text, init, none := "", "", ""
		if ok {
			text, init = fmt.Sprintf("const c = %d;\n", n), fmt.Sprintf("var v = %d;\n", n)
		}
		if n == 0 {
			init, none = "var v;\n", "var v[1];\n"
		}
		if Format(c) != text || Format(scalar) != init || Format(array) != none {
			t.Fatalf("value %d: %q, %q, %q", n, Format(c), Format(scalar), Format(array))
		}
	}
}

// P16.1: all combinations of what releases a task.
func TestTriggers(t *testing.T) {
	formed := 0
	for _, period := range []int{-1, 0, 1, 9, 32767, 32768} {
		for _, channel := range []string{"", "c", "if", "9"} {
			for _, param := range []string{"", "p", "c", "let", "p p"} {
				for _, within := range []int{-1, 0, 1, 32767, 32768} {
					for _, deadline := range []int{-1, 0, 1, 32767, 32768} {
						if checkProgram(t, api.Program{Tasks: []api.Task{{Name: "t", Period: period, Channel: channel, Param: param, Within: within, Deadline: deadline}}}) {
							formed++
						}
					}
				}
			}
		}
	}
	// Three periods, or one channel with two parameters and three ages; three deadlines.
	if want := 3*3 + 2*3*3; formed != want {
		t.Errorf("%d well-formed tasks, want %d", formed, want)
	}
}

// P16.1: for each kind of statement, each field that is not mentioned, and other numbers of arguments.
func TestFieldsOfStatements(t *testing.T) {
	for kind := 1; kind <= 13; kind++ {
		named := slices.Contains([]int{1, 2, 3, 7, 9}, kind)
		counted := slices.Contains([]int{5, 10, 11}, kind)
		hasBody := slices.Contains([]int{4, 5, 6, 10, 11}, kind)
		hasElse := kind == 4
		args := []int{0, 1, 1, 2, 1, 0, 1, 1, 1, 1, 0, 0, 0, 0}[kind]
		for _, s := range []string{"", "x", "while"} {
			for _, n := range []int{0, 1} {
				for count := range 5 {
					for _, body := range [][]api.Stmt{nil, {}, {back()}, {{}}} {
						for _, other := range [][]api.Stmt{nil, {}, {back()}, {{}}} {
							stmt := api.Stmt{Kind: kind, Name: s, N: n, Args: slices.Repeat([]api.Expr{num(1)}, count), Body: body, Else: other}
							want := named == (s == "x") && (named || s == "") && (n == 0 || counted) && count == args &&
								(len(body) == 0 || hasBody && body[0].Kind != 0) && (len(other) == 0 || hasElse && other[0].Kind != 0)
							if got := checkProgram(t, tasked(stmt)); got != want {
								t.Fatalf("%+v: well-formed is %v", stmt, got)
							}
						}
					}
				}
			}
		}
	}
}

// P16.1: kinds of statements outside the list.
func TestKindsOfStatements(t *testing.T) {
	for _, like := range append(everyStmt(), api.Stmt{}) {
		for _, n := range append(edges(), 1<<32+12, 1<<32+13, 256+13, -12, -13) {
			s := like
			s.Kind = int(n)
			p := tasked(s)
			if got := checkProgram(t, p); got && (n < 1 || n > 13) {
				t.Errorf("%+v is well-formed", s)
			}
		}
		for _, kind := range []int{-1, 0, 14, 15, math.MinInt, math.MaxInt} {
			if WellFormed(tasked(api.Stmt{Kind: kind})) {
				t.Errorf("a statement of kind %d is well-formed", kind)
			}
		}
	}
}

// P16.1: each site of the sample, and of the program of the document, set to other values: what is not well-formed
// is found wherever it is, also deep inside.
func TestEveryField(t *testing.T) {
	short, _ := document()
	formed, other := 0, 0
	for i := range sites(&short) {
		for _, p := range changes(short, i) {
			if checkProgram(t, p) {
				formed++
			} else {
				other++
			}
		}
	}
	if formed < 500 || other < 1000 {
		t.Errorf("%d well-formed programs, %d others", formed, other)
	}
	p := sample()
	if !checkProgram(t, p) {
		t.Fatal("the sample is not well-formed")
	}
	g := generator(3)
	for i, s := range sites(&p) {
		undo := restore(s.value)
		for range 2 {
			pick(&g, settings(s.value))(s.value)
			if got, want := WellFormed(p), isFormed(p); got != want || (Format(p) != "") != want {
				t.Fatalf("site %d, %s: well-formed is %v, with the text %q", i, s.path, got, Format(p))
			}
			undo()
		}
	}
	if !isFormed(p) {
		t.Error("the sample has changed")
	}
}

// P16.1: a statement or expression that is not well-formed inside each compound statement, several deep.
func TestInvalidInside(t *testing.T) {
	wraps := []func(api.Stmt) api.Stmt{
		func(s api.Stmt) api.Stmt { return choice(num(1), list(back(), s), nil) },
		func(s api.Stmt) api.Stmt { return choice(num(1), nil, list(s)) },
		func(s api.Stmt) api.Stmt { return choice(num(1), list(back()), list(s, back())) },
		func(s api.Stmt) api.Stmt { return repeat(1, back(), s, back()) },
		func(s api.Stmt) api.Stmt { return while(num(1), s) },
		func(s api.Stmt) api.Stmt { return fresh(1, s, back()) },
		func(s api.Stmt) api.Stmt { return together(1, back(), s) },
	}
	for _, invalid := range []api.Stmt{{}, {Kind: 14}, {Kind: api.StmtReturn, N: 1}, {Kind: api.StmtBoundary, Name: "x"}, {Kind: api.StmtEmit}, emit(num(-1)), emit(binary(api.OpNot, num(1), num(2))), let("if", num(1)), repeat(-1), fresh(32768), emit(unary(api.OpNeg, index("a", api.Expr{})))} {
		for _, outer := range wraps {
			for _, inner := range wraps {
				for _, deep := range []int{0, 1, 5} {
					s := outer(nest(deep+1, inner(invalid), inner))
					if p := tasked(back(), s, back()); WellFormed(p) || Format(p) != "" {
						t.Fatalf("%+v is well-formed", s)
					}
					s = outer(nest(deep+1, inner(back()), inner))
					if p := tasked(back(), s, back()); !WellFormed(p) || Format(p) == "" {
						t.Fatalf("%+v is not well-formed", s)
					}
				}
			}
		}
	}
}

// P16.1: a declaration that is not well-formed at each place of its list, and in the second task.
func TestInvalidAtEachPlace(t *testing.T) {
	for n := range 4 {
		for i := range n {
			p := api.Program{
				Consts: slices.Repeat([]api.Const{{Name: "c"}}, n), Globals: slices.Repeat([]api.Global{{Name: "g"}}, n), Sensors: slices.Repeat([]string{"s"}, n),
				Outputs: slices.Repeat([]string{"o"}, n), Channels: slices.Repeat([]api.Channel{{Name: "h"}}, n), Tasks: slices.Repeat([]api.Task{{Name: "t", Period: 1, Body: list(back(), back())}}, n),
			}
			if !checkProgram(t, p) {
				t.Fatalf("%+v is not well-formed", p)
			}
			for what, spoil := range map[string]func(*api.Program){
				"constant": func(p *api.Program) { p.Consts[i].Name = "" },
				"value":    func(p *api.Program) { p.Consts[i].Value = -32768 },
				"variable": func(p *api.Program) { p.Globals[i].Name = "var" },
				"length":   func(p *api.Program) { p.Globals[i].Len = -1 },
				"sensor":   func(p *api.Program) { p.Sensors[i] = "" },
				"output":   func(p *api.Program) { p.Outputs[i] = "1" },
				"channel":  func(p *api.Program) { p.Channels[i].Cap = -1 },
				"name":     func(p *api.Program) { p.Channels[i].Name = "a b" },
				"task":     func(p *api.Program) { p.Tasks[i].Period = 0 },
				"first":    func(p *api.Program) { p.Tasks[i].Body[0].Kind = 0 },
				"second":   func(p *api.Program) { p.Tasks[i].Body[1].Kind = 0 },
			} {
				q := exact(p)
				spoil(&q)
				if checkProgram(t, q) {
					t.Fatalf("%s %d: %+v is well-formed", what, i, q)
				}
			}
		}
	}
}

// P16.1: two things that are not well-formed, or one of them, at each pair of places of short programs.
func TestTwoFields(t *testing.T) {
	all := []api.Program{
		{Consts: []api.Const{{Name: "c"}}, Globals: []api.Global{{Name: "g"}}, Sensors: []string{"s"}},
		{Sensors: []string{"s"}, Outputs: []string{"o"}, Channels: []api.Channel{{Name: "h"}}},
		{Consts: []api.Const{{Name: "c"}}, Outputs: []string{"o"}, Tasks: []api.Task{{Name: "t", Period: 1}}},
		{Globals: []api.Global{{Name: "g", Len: 1}}, Channels: []api.Channel{{Name: "h"}}, Tasks: []api.Task{{Name: "t", Channel: "c", Param: "p"}}},
		{Consts: []api.Const{{Name: "c"}, {Name: "d"}}, Globals: []api.Global{{Name: "g"}, {Name: "f"}}},
		tasked(back(), emit(num(1))),
	}
	for _, s := range everyStmt() {
		all = append(all, tasked(s))
	}
	for _, x := range []api.Expr{index("a", num(2)), unary(api.OpNot, name("u")), binary(api.OpSub, read("s"), num(1))} {
		all = append(all, tasked(emit(x)))
	}
	values := map[reflect.Type][]any{}
	for _, value := range []any{-1, 0, 1, 32768, int16(-32768), int16(-1), int16(0), int16(1), "", "a", "9",
		[]api.Expr{}, []api.Expr{{}}, []api.Expr{num(1)}, []api.Expr{num(-1)}, []api.Expr{num(1), num(2)}, []api.Expr{num(1), {}}, []api.Stmt{}, []api.Stmt{{}}, []api.Stmt{back()}} {
		values[reflect.TypeOf(value)] = append(values[reflect.TypeOf(value)], value)
	}
	choose := func(v reflect.Value) []func(reflect.Value) {
		var l []func(reflect.Value)
		for _, value := range values[v.Type()] {
			l = append(l, func(v reflect.Value) { v.Set(reflect.ValueOf(value)) })
		}
		if l == nil {
			return settings(v)[:5]
		}
		return l
	}
	formed, other := 0, 0
	for _, p := range all {
		places := sites(&p)
		for i, first := range places {
			// If the first place is a list, the second one may be inside of what is gone, which does no harm.
			for _, second := range places[i+1:] {
				undoFirst, undoSecond := restore(first.value), restore(second.value)
				for _, setFirst := range choose(first.value) {
					for _, setSecond := range choose(second.value) {
						setFirst(first.value)
						setSecond(second.value)
						want, text := isFormed(p), ""
						if want {
							text = programText(p)
						}
						if WellFormed(p) != want || Format(p) != text {
							t.Fatalf("%s and %s: %+v is well-formed: %v", first.path, second.path, p, !want)
						}
						if want {
							formed++
						} else {
							other++
						}
						undoSecond()
						undoFirst()
					}
				}
			}
		}
		if !isFormed(p) {
			t.Fatalf("%+v has changed", p)
		}
	}
	if formed < 1000 || other < 10000 {
		t.Errorf("%d well-formed programs, %d others", formed, other)
	}
}

// P16.1: equal names are no concern of this layer.
func TestEqualNames(t *testing.T) {
	p := api.Program{Consts: []api.Const{{Name: "x"}, {Name: "x"}}, Globals: []api.Global{{Name: "x"}}, Sensors: []string{"x", "x"}, Outputs: []string{"x"}, Channels: []api.Channel{{Name: "x"}},
		Tasks: []api.Task{{Name: "x", Channel: "x", Param: "x", Body: list(let("x", name("x")), let("x", read("x")))}}}
	if !checkProgram(t, p) {
		t.Error("a program with one name is not well-formed")
	}
}
