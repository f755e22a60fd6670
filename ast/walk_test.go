package ast

import (
	"fmt"
	"iter"
	"reflect"
	"slices"
	"strings"
	"testing"

	"trickle/api"
)

// label returns a short text for a statement or an expression.
func label(v any) string {
	switch v := v.(type) {
	case api.Stmt:
		return fmt.Sprintf("%d%s", v.Kind, v.Name)
	case api.Expr:
		if v.Kind == api.ExprInt {
			return fmt.Sprint(v.Value)
		}
		return fmt.Sprintf("%s%s", v.Name, opTexts[v.Op])
	}
	return "?"
}

// labels returns the labels of what a sequence yields.
func labels[T any](s iter.Seq[T]) string {
	var all []string
	for v := range s {
		all = append(all, label(v))
	}
	return strings.Join(all, " ")
}

// P16.1: orders written down by hand.
func TestOrderByHand(t *testing.T) {
	l := list(
		let("v", binary(api.OpAdd, num(1), unary(api.OpNeg, num(2)))),
		choice(name("c"),
			list(while(num(3), send("ch", num(4))), back()),
			list(choice(num(5), nil, list(emit(num(6)))), fresh(7, together(8, output("o", num(9)))))),
		assignAt("h", index("g", num(10)), binary(api.OpMul, binary(api.OpSub, num(11), num(12)), read("s"))),
		repeat(2, checkpoint(), assign("w", num(13))),
	)
	if got, want := labels(Stmts(l)), "1v 4 6 7ch 13 4 8 10 11 9o 3h 5 12 2w"; got != want {
		t.Errorf("Stmts yields %s, want %s", got, want)
	}
	if got, want := labels(Exprs(l)), "+ 1 - 2 c? 3 4 5 6 9 g? 10 * - 11 12 s? 13"; got != want {
		t.Errorf("Exprs yields %s, want %s", got, want)
	}
	checkOrder(t, l)
	for _, none := range [][]api.Stmt{nil, {}} {
		if n := len(slices.Collect(Stmts(none))) + len(slices.Collect(Exprs(none))); n != 0 {
			t.Errorf("%d elements of an empty list", n)
		}
	}
	if n := len(slices.Collect(Exprs(list(back(), repeat(1, checkpoint()))))); n != 0 {
		t.Errorf("%d expressions of statements without any", n)
	}
}

// P16.1: lists of trees that need not be well-formed: all slices count, whatever the kind.
func TestOrderOfAnyKind(t *testing.T) {
	g := generator(7)
	for range 3000 {
		p := g.program()
		for range g.below(3) {
			p = change(&g, p)
		}
		for _, task := range p.Tasks {
			checkOrder(t, task.Body)
		}
		checkProgram(t, p)
	}
	x := api.Expr{Kind: 99, Name: "x", Args: []api.Expr{num(1), {Kind: 1, Value: 2, Args: []api.Expr{name("y"), {Kind: -4, Name: "z"}}}, num(3)}}
	s := api.Stmt{Kind: 77, Name: "s", Args: []api.Expr{x, num(4)}, Body: list(api.Stmt{Kind: 13, Name: "r", Body: list(emit(num(5)))}), Else: list(api.Stmt{Kind: 12, Else: list(api.Stmt{}, back())})}
	if got, want := labels(Stmts(list(s, s))), "77s 13r 8 12 0 13 77s 13r 8 12 0 13"; got != want {
		t.Errorf("Stmts yields %s, want %s", got, want)
	}
	if got, want := labels(Exprs(list(s))), "x? 1 2 y? z? 3 4 5"; got != want {
		t.Errorf("Exprs yields %s, want %s", got, want)
	}
	p := tasked(s, api.Stmt{})
	if Size(p) != 7+8 || Depth(p) != 4 {
		t.Errorf("size %d, depth %d", Size(p), Depth(p))
	}
	checkProgram(t, p)
}

// checkStops stops a sequence at each place: it yields what is ahead of it and calls no more; then iterates it again.
func checkStops[T any](t *testing.T, s iter.Seq[T], want []T) {
	t.Helper()
	for stop := 1; stop <= len(want); stop++ {
		var got []T
		s(func(v T) bool {
			if len(got) == stop {
				t.Fatalf("the iteration goes on behind element %d", stop)
			}
			got = append(got, v)
			return len(got) < stop
		})
		if !reflect.DeepEqual(got, want[:stop]) {
			t.Fatalf("the first %d elements are %+v, want %+v", stop, got, want[:stop])
		}
		n := 0
		for v := range s {
			if n++; n == stop {
				if !reflect.DeepEqual(v, want[stop-1]) {
					t.Fatalf("element %d is %+v, want %+v", stop, v, want[stop-1])
				}
				break
			}
		}
	}
	if got := slices.Collect(s); !reflect.DeepEqual(got, want) {
		t.Fatalf("the whole sequence is %+v, want %+v", got, want)
	}
}

// P16.1: iterations that stop at each place of some lists.
func TestStop(t *testing.T) {
	p := sample()
	l := p.Tasks[2].Body
	checkStops(t, Stmts(l), stmtsOf(l))
	checkStops(t, Exprs(l), exprsOf(l))
	d, _ := document()
	l = slices.Concat(d.Tasks[0].Body, d.Tasks[1].Body, everyStmt())
	checkStops(t, Stmts(l), stmtsOf(l))
	checkStops(t, Exprs(l), exprsOf(l))
	g := generator(8)
	for range 100 {
		l := g.stmts(3)
		if len(l) > 0 {
			checkStops(t, Stmts(l), stmtsOf(l))
		}
		if len(exprsOf(l)) > 0 {
			checkStops(t, Exprs(l), exprsOf(l))
		}
	}
}

// P16.1: a consumer that returns from inside of nested loops over one sequence.
func TestNested(t *testing.T) {
	l := sample().Tasks[2].Body
	s, x := Stmts(l), Exprs(l)
	found := func() (int, int) {
		i := 0
		for range s {
			j := 0
			for range x {
				k := 0
				for range s {
					if k++; i == 5 && j == 7 && k == 9 {
						return i, j
					}
				}
				j++
			}
			i++
		}
		return -1, -1
	}
	if i, j := found(); i != 5 || j != 7 {
		t.Errorf("the loops end at %d, %d", i, j)
	}
	first, stopFirst := iter.Pull(s)
	defer stopFirst()
	second, stopSecond := iter.Pull(s)
	defer stopSecond()
	first()
	for i, want := range stmtsOf(l) {
		a, _ := second()
		b, ok := first()
		if !reflect.DeepEqual(a, want) || ok != (i+1 < len(stmtsOf(l))) || ok && !reflect.DeepEqual(b, stmtsOf(l)[i+1]) {
			t.Fatalf("in turn: %+v and %+v, %v at %d", a, b, ok, i)
		}
	}
}

// spoil changes every site of a tree, from the inside to the outside, and the memory behind every list.
func spoil[T any](v *T) { spoilValue(reflect.ValueOf(v).Elem()) }

func spoilValue(v reflect.Value) {
	var all []site
	addSites(&all, "", v)
	slices.Reverse(all)
	for _, s := range all {
		switch s.value.Kind() {
		case reflect.String:
			s.value.SetString("spoilt")
		case reflect.Slice:
			behind := s.value.Slice(0, s.value.Cap())
			for i := s.value.Len(); i < behind.Len(); i++ {
				spoilValue(behind.Index(i))
			}
		default:
			s.value.SetInt(99)
		}
	}
}

// P16.1: what the consumer changes in what it receives, changes nothing in the argument, nor in what the sequence
// yields when it is iterated again; and what becomes of the argument, changes nothing in what the sequence yields.
func TestYieldedMemory(t *testing.T) {
	p := sample()
	l := p.Tasks[4].Body
	l = append(l, p.Tasks[3].Body...)
	before := exact(l)
	s, x := Stmts(l), Exprs(l)
	for range 2 {
		for v := range s {
			spoil(&v.Args)
			spoil(&v.Else)
		}
		for v := range x {
			spoil(&v)
		}
		for v := range s {
			spoil(&v.Body)
			break
		}
		if !reflect.DeepEqual(l, before) {
			t.Fatal("the argument has changed")
		}
	}
	wantStmts, wantExprs := stmtsOf(before), exprsOf(before)
	if !reflect.DeepEqual(slices.Collect(s), wantStmts) || !reflect.DeepEqual(slices.Collect(x), wantExprs) {
		t.Fatal("the sequence has changed")
	}
	spoil(&l)
	if !reflect.DeepEqual(slices.Collect(s), wantStmts) || !reflect.DeepEqual(slices.Collect(x), wantExprs) {
		t.Fatal("the sequence changes with the argument")
	}
}

// P16.1: Size and Depth worked out by hand.
func TestSizeAndDepth(t *testing.T) {
	sum := binary(api.OpAdd, name("a"), num(1))
	for _, c := range []struct {
		p           api.Program
		size, depth int
	}{
		{api.Program{}, 0, 0}, {tasked(), 0, 0}, {api.Program{Tasks: []api.Task{}}, 0, 0}, {api.Program{Tasks: make([]api.Task, 3)}, 0, 0},
		{api.Program{Consts: make([]api.Const, 2), Globals: make([]api.Global, 2), Sensors: make([]string, 2), Outputs: make([]string, 2), Channels: make([]api.Channel, 2)}, 0, 0},
		{tasked(api.Stmt{}), 1, 1}, {tasked(back()), 1, 1}, {tasked(checkpoint()), 1, 1}, {tasked(back(), back(), checkpoint()), 3, 1},
		{tasked(emit(num(1))), 2, 2}, {tasked(emit(name("a"))), 2, 2}, {tasked(emit(read("s"))), 2, 2}, {tasked(emit(index("h", num(1)))), 3, 3}, {tasked(emit(unary(api.OpNeg, num(1)))), 3, 3}, {tasked(emit(sum)), 4, 3},
		{tasked(let("x", num(1))), 2, 2}, {tasked(assign("x", sum)), 4, 3}, {tasked(assignAt("x", num(1), num(2))), 3, 2}, {tasked(assignAt("x", sum, num(2))), 5, 3}, {tasked(assignAt("x", num(2), sum)), 5, 3}, {tasked(send("c", num(1))), 2, 2}, {tasked(output("o", sum)), 4, 3},
		{tasked(repeat(5)), 1, 1}, {tasked(fresh(5)), 1, 1}, {tasked(together(5)), 1, 1}, {tasked(while(num(1))), 2, 2}, {tasked(choice(num(1), nil, nil)), 2, 2},
		{tasked(repeat(5, back())), 2, 2}, {tasked(fresh(5, emit(sum))), 5, 4}, {tasked(together(5, back(), emit(num(1)), back())), 5, 3}, {tasked(while(num(1), back())), 3, 2}, {tasked(while(sum, back())), 5, 3}, {tasked(while(num(1), emit(sum))), 6, 4},
		{tasked(choice(num(1), list(back()), nil)), 3, 2}, {tasked(choice(num(1), nil, list(back()))), 3, 2}, {tasked(choice(num(1), list(emit(num(1))), list(back()))), 5, 3}, {tasked(choice(num(1), list(back()), list(emit(num(1))))), 5, 3}, {tasked(choice(sum, list(back()), list(back()))), 6, 3},
		{tasked(choice(num(1), nil, list(choice(num(2), nil, list(choice(num(3), nil, list(back()))))))), 7, 4},
		{tasked(repeat(1, repeat(1, repeat(1, emit(index("h", index("h", num(1)))))))), 7, 7},
		{tasked(repeat(1, back()), back(), emit(binary(api.OpMul, sum, num(2)))), 9, 4}, {tasked(emit(binary(api.OpMul, num(2), sum)), repeat(1, back())), 8, 4},
		{api.Program{Tasks: []api.Task{{Body: list(back())}, {Body: list(emit(sum))}, {Body: list(back(), back())}}}, 7, 3},
		{api.Program{Tasks: []api.Task{{Body: list(emit(sum), back())}, {Body: list(back())}}}, 6, 3},
	} {
		if Size(c.p) != c.size || Depth(c.p) != c.depth {
			t.Errorf("%+v: size %d, depth %d, want %d, %d", c.p, Size(c.p), Depth(c.p), c.size, c.depth)
		}
		checkProgram(t, c.p)
	}
	p, _ := document()
	if Size(p) != 24 || Depth(p) != 4 {
		t.Errorf("the document's program: size %d, depth %d", Size(p), Depth(p))
	}
}
