package ast

import (
	"fmt"
	"reflect"
	"regexp"
	"slices"
	"strings"
	"testing"

	"trickle/api"
)

// The definitions of the chapter, as directly as they can be written down.

const allKeywords = "channel checkpoint const deadline else emit every fresh if let on output read repeat return send sensor task together var while within"

var nameBytes = regexp.MustCompile(`\A[a-zA-Z_][a-zA-Z0-9_]{0,31}\z`)

func isName(s string) bool {
	return nameBytes.MatchString(s) && !slices.Contains(strings.Fields(allKeywords), s)
}

// plain returns a tree in which all positions are 0 and all empty slices are nil.
func plain[T any](v T) T {
	var to T
	makePlain(reflect.ValueOf(&to).Elem(), reflect.ValueOf(&v).Elem())
	return to
}

func makePlain(to, from reflect.Value) {
	switch from.Kind() {
	case reflect.Struct:
		for i := range from.NumField() {
			if from.Type().Field(i).Name != "Pos" {
				makePlain(to.Field(i), from.Field(i))
			}
		}
	case reflect.Slice:
		if from.Len() > 0 {
			to.Set(reflect.MakeSlice(from.Type(), from.Len(), from.Len()))
		}
		for i := range from.Len() {
			makePlain(to.Index(i), from.Index(i))
		}
	default:
		to.Set(from)
	}
}

// same is the definition of Equal and EqualExpr.
func same[T any](a, b T) bool { return reflect.DeepEqual(plain(a), plain(b)) }

// exact returns a tree in new memory, with its positions and its empty slices.
func exact[T any](v T) T {
	var to T
	makeExact(reflect.ValueOf(&to).Elem(), reflect.ValueOf(&v).Elem())
	return to
}

func makeExact(to, from reflect.Value) {
	switch from.Kind() {
	case reflect.Struct:
		for i := range from.NumField() {
			makeExact(to.Field(i), from.Field(i))
		}
	case reflect.Slice:
		if !from.IsNil() {
			to.Set(reflect.MakeSlice(from.Type(), from.Len(), from.Len()))
		}
		for i := range from.Len() {
			makeExact(to.Index(i), from.Index(i))
		}
	default:
		to.Set(from)
	}
}

// exprIsFormed is the definition of a well-formed expression: it is the one that has the mentioned fields alone.
func exprIsFormed(x api.Expr) bool {
	only, ok := api.Expr{Kind: x.Kind}, false
	switch x.Kind {
	case 1:
		only.Value = x.Value
		ok = x.Value >= 0
	case 2, 4:
		only.Name = x.Name
		ok = isName(x.Name)
	case 3:
		only.Name, only.Args = x.Name, x.Args
		ok = isName(x.Name) && len(x.Args) == 1
	case 5:
		only.Op, only.Args = x.Op, x.Args
		ok = (x.Op == 1 || x.Op == 2) && len(x.Args) == 1
	case 6:
		only.Op, only.Args = x.Op, x.Args
		ok = 3 <= x.Op && x.Op <= 15 && len(x.Args) == 2
	}
	for _, a := range x.Args {
		ok = ok && exprIsFormed(a)
	}
	return ok && x.Name == only.Name && x.Value == only.Value && x.Op == only.Op && len(x.Args) == len(only.Args)
}

// stmtIsFormed is the definition of a well-formed statement.
func stmtIsFormed(s api.Stmt) bool {
	only, ok := api.Stmt{Kind: s.Kind}, false
	switch s.Kind {
	case 1, 2, 7, 9:
		only.Name, only.Args = s.Name, s.Args
		ok = isName(s.Name) && len(s.Args) == 1
	case 3:
		only.Name, only.Args = s.Name, s.Args
		ok = isName(s.Name) && len(s.Args) == 2
	case 4:
		only.Args, only.Body, only.Else = s.Args, s.Body, s.Else
		ok = len(s.Args) == 1
	case 5, 10, 11:
		only.N, only.Body = s.N, s.Body
		ok = 0 <= s.N && s.N <= 32767
	case 6:
		only.Args, only.Body = s.Args, s.Body
		ok = len(s.Args) == 1
	case 8:
		only.Args = s.Args
		ok = len(s.Args) == 1
	case 12, 13:
		ok = true
	}
	for _, x := range s.Args {
		ok = ok && exprIsFormed(x)
	}
	for _, inner := range slices.Concat(s.Body, s.Else) {
		ok = ok && stmtIsFormed(inner)
	}
	return ok && s.Name == only.Name && s.N == only.N && len(s.Args) == len(only.Args) && len(s.Body) == len(only.Body) && len(s.Else) == len(only.Else)
}

func taskIsFormed(t api.Task) bool {
	period := 1 <= t.Period && t.Period <= 32767 && t.Channel == "" && t.Param == "" && t.Within == 0
	message := t.Period == 0 && isName(t.Channel) && isName(t.Param) && 0 <= t.Within && t.Within <= 32767
	ok := isName(t.Name) && 0 <= t.Deadline && t.Deadline <= 32767 && (period || message)
	for _, s := range t.Body {
		ok = ok && stmtIsFormed(s)
	}
	return ok
}

// isFormed is the definition of WellFormed.
func isFormed(p api.Program) bool {
	ok := true
	for _, c := range p.Consts {
		ok = ok && isName(c.Name) && c.Value != -32768
	}
	for _, g := range p.Globals {
		ok = ok && isName(g.Name) && 0 <= g.Len && g.Len <= 32767 && g.Init != -32768 && (g.Len == 0 || g.Init == 0)
	}
	for _, name := range slices.Concat(p.Sensors, p.Outputs) {
		ok = ok && isName(name)
	}
	for _, c := range p.Channels {
		ok = ok && isName(c.Name) && 0 <= c.Cap && c.Cap <= 32767
	}
	for _, t := range p.Tasks {
		ok = ok && taskIsFormed(t)
	}
	return ok
}

// opTexts and opLevels are the operators' texts and levels of precedence, by number.
var (
	opTexts  = strings.Fields("? - ! + - * / % == != < <= > >= && ||")
	opLevels = []int{0, 6, 6, 4, 4, 5, 5, 5, 3, 3, 3, 3, 3, 3, 2, 1}
)

func levelOf(x api.Expr) int {
	if x.Kind == 5 || x.Kind == 6 {
		return opLevels[x.Op]
	}
	return 7
}

// exprText is the definition of Expr for well-formed expressions.
func exprText(x api.Expr) string {
	switch x.Kind {
	case 1:
		return fmt.Sprint(x.Value)
	case 2:
		return x.Name
	case 3:
		return x.Name + "[" + exprText(x.Args[0]) + "]"
	case 4:
		return "read(" + x.Name + ")"
	case 5:
		operand := exprText(x.Args[0])
		if levelOf(x.Args[0]) < 6 {
			operand = "(" + operand + ")"
		}
		return opTexts[x.Op] + operand
	}
	left, right := exprText(x.Args[0]), exprText(x.Args[1])
	if l := levelOf(x.Args[0]); l < levelOf(x) || l == levelOf(x) && levelOf(x) == 3 {
		left = "(" + left + ")"
	}
	if levelOf(x.Args[1]) <= levelOf(x) {
		right = "(" + right + ")"
	}
	return left + " " + opTexts[x.Op] + " " + right
}

// indented returns the lines of some statements inside a pair of braces.
func indented(l []api.Stmt) []string {
	lines := stmtLines(l)
	for i := range lines {
		lines[i] = "    " + lines[i]
	}
	return lines
}

// stmtLines is the definition of the lines of well-formed statements that no braces enclose.
func stmtLines(l []api.Stmt) []string {
	var lines []string
	for _, s := range l {
		var e []string
		for _, x := range s.Args {
			e = append(e, exprText(x))
		}
		switch s.Kind {
		case 1:
			lines = append(lines, fmt.Sprintf("let %s = %s;", s.Name, e[0]))
		case 2:
			lines = append(lines, fmt.Sprintf("%s = %s;", s.Name, e[0]))
		case 3:
			lines = append(lines, fmt.Sprintf("%s[%s] = %s;", s.Name, e[0], e[1]))
		case 4:
			lines = append(lines, ifLines(s)...)
		case 5, 10, 11:
			words := map[int]string{5: "repeat", 10: "fresh", 11: "together"}
			lines = append(lines, fmt.Sprintf("%s %d {", words[s.Kind], s.N))
			lines = append(append(lines, indented(s.Body)...), "}")
		case 6:
			lines = append(lines, fmt.Sprintf("while %s {", e[0]))
			lines = append(append(lines, indented(s.Body)...), "}")
		case 7:
			lines = append(lines, fmt.Sprintf("send %s %s;", s.Name, e[0]))
		case 8:
			lines = append(lines, fmt.Sprintf("emit %s;", e[0]))
		case 9:
			lines = append(lines, fmt.Sprintf("output %s %s;", s.Name, e[0]))
		case 12:
			lines = append(lines, "checkpoint;")
		case 13:
			lines = append(lines, "return;")
		}
	}
	return lines
}

func ifLines(s api.Stmt) []string {
	lines := append([]string{"if " + exprText(s.Args[0]) + " {"}, indented(s.Body)...)
	switch {
	case len(s.Else) == 0:
		return append(lines, "}")
	case len(s.Else) == 1 && s.Else[0].Kind == 4:
		other := stmtLines(s.Else)
		other[0] = "} else " + other[0]
		return append(lines, other...)
	}
	return append(append(append(lines, "} else {"), indented(s.Else)...), "}")
}

// programText is the definition of Format for well-formed programs.
func programText(p api.Program) string {
	var lines []string
	for _, c := range p.Consts {
		lines = append(lines, fmt.Sprintf("const %s = %d;", c.Name, c.Value))
	}
	for _, g := range p.Globals {
		switch {
		case g.Len != 0:
			lines = append(lines, fmt.Sprintf("var %s[%d];", g.Name, g.Len))
		case g.Init == 0:
			lines = append(lines, fmt.Sprintf("var %s;", g.Name))
		default:
			lines = append(lines, fmt.Sprintf("var %s = %d;", g.Name, g.Init))
		}
	}
	for _, name := range p.Sensors {
		lines = append(lines, fmt.Sprintf("sensor %s;", name))
	}
	for _, name := range p.Outputs {
		lines = append(lines, fmt.Sprintf("output %s;", name))
	}
	for _, c := range p.Channels {
		lines = append(lines, fmt.Sprintf("channel %s[%d];", c.Name, c.Cap))
	}
	for _, t := range p.Tasks {
		first := fmt.Sprintf("task %s every %d deadline %d {", t.Name, t.Period, t.Deadline)
		if t.Period == 0 {
			first = fmt.Sprintf("task %s on %s(%s) within %d deadline %d {", t.Name, t.Channel, t.Param, t.Within, t.Deadline)
		}
		first = strings.Replace(strings.Replace(first, " within 0 ", " ", 1), " deadline 0 ", " ", 1)
		lines = append(lines, first)
		lines = append(append(lines, indented(t.Body)...), "}")
	}
	all := ""
	if len(lines) > 0 {
		all = strings.Join(lines, "\n") + "\n"
	}
	return all
}

// stmtsOf and exprsOf are the definitions of Stmts and Exprs.
func stmtsOf(l []api.Stmt) []api.Stmt {
	var all []api.Stmt
	for _, s := range l {
		all = append(all, s)
		all = append(all, stmtsOf(s.Body)...)
		all = append(all, stmtsOf(s.Else)...)
	}
	return all
}

func exprsOf(l []api.Stmt) []api.Expr {
	var all []api.Expr
	for _, s := range stmtsOf(l) {
		all = append(all, argsOf(s.Args)...)
	}
	return all
}

func argsOf(l []api.Expr) []api.Expr {
	var all []api.Expr
	for _, x := range l {
		all = append(append(all, x), argsOf(x.Args)...)
	}
	return all
}

// sizeOf is the definition of Size.
func sizeOf(p api.Program) int {
	n := 0
	for _, t := range p.Tasks {
		n += len(stmtsOf(t.Body)) + len(exprsOf(t.Body))
	}
	return n
}

// depthOf is the definition of Depth.
func depthOf(p api.Program) int {
	most := 0
	for _, t := range p.Tasks {
		for _, s := range t.Body {
			most = max(most, depthOfStmt(s))
		}
	}
	return most
}

func depthOfStmt(s api.Stmt) int {
	inner := depthOfArgs(s.Args)
	for _, b := range append(slices.Clone(s.Body), s.Else...) {
		inner = max(inner, depthOfStmt(b))
	}
	return 1 + inner
}

func depthOfArgs(l []api.Expr) int {
	most := 0
	for _, x := range l {
		most = max(most, 1+depthOfArgs(x.Args))
	}
	return most
}

// checkProgram compares all functions of one program with their definitions, checks that they change nothing, and
// reports whether the program is well-formed.
func checkProgram(t *testing.T, p api.Program) bool {
	t.Helper()
	before := exact(p)
	formed := isFormed(p)
	if got := WellFormed(p); got != formed {
		t.Fatalf("WellFormed(%+v) = %v", p, got)
	}
	want := ""
	if formed {
		want = programText(p)
	}
	if got := Format(p); got != want {
		t.Fatalf("Format(%+v) = %q, want %q", p, got, want)
	}
	if got, want := Size(p), sizeOf(p); got != want {
		t.Fatalf("Size(%+v) = %d, want %d", p, got, want)
	}
	if got, want := Depth(p), depthOf(p); got != want {
		t.Fatalf("Depth(%+v) = %d, want %d", p, got, want)
	}
	for _, task := range p.Tasks {
		checkOrder(t, task.Body)
	}
	stripped := Strip(p)
	if got, want := stripped, plain(p); !reflect.DeepEqual(plain(got), want) || positions(got) != 0 {
		t.Fatalf("Strip(%+v) = %+v", p, got)
	}
	if !Equal(p, stripped) || !Equal(stripped, p) || !Equal(p, p) || Format(stripped) != want || WellFormed(stripped) != formed {
		t.Fatalf("Strip(%+v) = %+v is another program", p, stripped)
	}
	if !reflect.DeepEqual(p, before) {
		t.Fatalf("%+v has become %+v", before, p)
	}
	return formed
}

// checkOrder compares what Stmts and Exprs yield with their definitions.
func checkOrder(t *testing.T, l []api.Stmt) {
	t.Helper()
	if got, want := slices.Collect(Stmts(l)), stmtsOf(l); !reflect.DeepEqual(got, want) {
		t.Fatalf("Stmts(%+v) yields %+v, want %+v", l, got, want)
	}
	if got, want := slices.Collect(Exprs(l)), exprsOf(l); !reflect.DeepEqual(got, want) {
		t.Fatalf("Exprs(%+v) yields %+v, want %+v", l, got, want)
	}
}

// checkExpr compares the functions of one expression with their definitions, and reports whether it is well-formed.
func checkExpr(t *testing.T, x api.Expr) bool {
	t.Helper()
	before := exact(x)
	formed, want := exprIsFormed(x), ""
	if formed {
		want = exprText(x)
	}
	if got := Expr(x); got != want {
		t.Fatalf("Expr(%+v) = %q, want %q", x, got, want)
	}
	if !EqualExpr(x, x) || !EqualExpr(x, plain(x)) || !EqualExpr(plain(x), x) {
		t.Fatalf("%+v is not equal to itself", x)
	}
	if !reflect.DeepEqual(x, before) {
		t.Fatalf("%+v has become %+v", before, x)
	}
	return formed
}

// checkEqual compares Equal with its definition, and reports whether two programs are equal.
func checkEqual(t *testing.T, a, b api.Program) bool {
	t.Helper()
	want := same(a, b)
	if Equal(a, b) != want || Equal(b, a) != want {
		t.Fatalf("Equal = %v and %v of\n%+v and\n%+v", Equal(a, b), Equal(b, a), a, b)
	}
	return want
}

// site is a field, or an element that is no struct, of a tree.
type site struct {
	path  string
	value reflect.Value
}

// sites returns all places of a tree that hold a number, a text or a list, from the outside to the inside.
func sites[T any](v *T) []site {
	var all []site
	addSites(&all, "", reflect.ValueOf(v).Elem())
	return all
}

func addSites(all *[]site, path string, v reflect.Value) {
	if v.Kind() == reflect.Struct {
		for i := range v.NumField() {
			addSites(all, path+"."+v.Type().Field(i).Name, v.Field(i))
		}
		return
	}
	*all = append(*all, site{path, v})
	if v.Kind() == reflect.Slice {
		for i := range v.Len() {
			addSites(all, fmt.Sprintf("%s[%d]", path, i), v.Index(i))
		}
	}
}

// isPosition reports whether a site is that of a position.
func (s site) isPosition() bool { return strings.HasSuffix(s.path, ".Pos") }

// positions returns how many positions of a tree are not 0.
func positions[T any](v T) int {
	n := 0
	for _, s := range sites(&v) {
		if s.isPosition() && !s.value.IsZero() {
			n++
		}
	}
	return n
}
