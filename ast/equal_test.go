package ast

import (
	"reflect"
	"testing"

	"trickle/api"
)

// plainPart returns a part of a tree without positions.
func plainPart(v reflect.Value) any {
	w := reflect.New(v.Type()).Elem()
	makePlain(w, v)
	return w.Interface()
}

// P16.1: the sample with exactly one field changed is another program, unless the field is a position.
func TestEqualOneField(t *testing.T) {
	p, q := sample(), sample()
	if !checkEqual(t, p, q) {
		t.Fatal("the sample is not equal to itself")
	}
	kinds := map[string]int{}
	g := generator(11)
	for _, s := range sites(&q) {
		undo, before := restore(s.value), plainPart(s.value)
		var differ []func(reflect.Value)
		switch s.value.Kind() {
		case reflect.String:
			text := s.value.String()
			for _, other := range []string{text + "x", text + "\x00", "x" + text, "", "X" + text[min(1, len(text)):], text[:max(0, len(text)-1)] + "_"} {
				if other != text {
					differ = append(differ, func(v reflect.Value) { v.SetString(other) })
				}
			}
		case reflect.Slice:
			for _, set := range listSettings(s.value.Len()) {
				set(s.value)
				other := restore(s.value)
				undo()
				differ = append(differ, func(reflect.Value) { other() })
			}
		default:
			n := s.value.Int()
			others := []int64{n + 1, n - 1, n + 256, n + 1<<32, -n, n ^ 1<<15}
			for range 4 {
				others = append(others, pick(&g, edges()))
			}
			for _, other := range others {
				if other != n && !s.value.OverflowInt(other) {
					differ = append(differ, func(v reflect.Value) { v.SetInt(other) })
				}
			}
		}
		for _, set := range differ {
			set(s.value)
			want := s.isPosition() || reflect.DeepEqual(plainPart(s.value), before)
			if Equal(p, q) != want || Equal(q, p) != want {
				t.Fatalf("%s: Equal = %v, %v with %v", s.path, Equal(p, q), Equal(q, p), s.value)
			}
			kinds[s.value.Kind().String()]++
			undo()
		}
	}
	if !checkEqual(t, p, q) || len(kinds) != 4 {
		t.Errorf("the sample has changed, or fields are missing: %v", kinds)
	}
}

// P16.1: fields of which each kind of declaration, statement and expression makes no use count as well, whatever
// the kind: trees that are not well-formed differ in them.
func TestEqualOtherFields(t *testing.T) {
	for kind := -1; kind <= 14; kind++ {
		x := api.Expr{Kind: kind}
		for i := range sites(&x) {
			for _, y := range changes(x, i) {
				checkExprs(t, x, y)
			}
		}
		p := tasked(api.Stmt{Kind: kind})
		for i := range sites(&p) {
			for _, q := range changes(p, i) {
				checkEqual(t, p, q)
			}
		}
	}
	p := api.Program{Consts: make([]api.Const, 1), Globals: make([]api.Global, 1), Sensors: make([]string, 1), Outputs: make([]string, 1), Channels: make([]api.Channel, 1), Tasks: make([]api.Task, 1)}
	for i := range sites(&p) {
		for _, q := range changes(p, i) {
			checkEqual(t, p, q)
		}
	}
}

// P16.1: programs that differ in positions alone, in one or in all of them.
func TestEqualPositions(t *testing.T) {
	p := sample()
	all := sample()
	number(&all, -1000000)
	if !checkEqual(t, p, all) || !checkEqual(t, all, Strip(p)) || positions(all) != positions(p) {
		t.Error("positions matter")
	}
	for _, x := range exprsOf(p.Tasks[4].Body) {
		y := exact(x)
		number(&y, 77)
		if !checkExprs(t, x, y) {
			t.Errorf("positions in %+v matter", x)
		}
	}
}

// P16.1: an element that is in one list is not the same in another one.
func TestEqualOtherPlace(t *testing.T) {
	var all []api.Program
	for _, s := range append(everyStmt(), api.Stmt{}) {
		all = append(all, tasked(s), tasked(s, s), tasked(choice(num(1), list(s), nil)), tasked(choice(num(1), nil, list(s))), tasked(choice(num(1), list(s), list(s))), tasked(while(num(1), s)), tasked(while(num(1)), s), tasked(repeat(1, s)),
			api.Program{Tasks: []api.Task{{Name: "t", Period: 1, Body: list(s)}, {Name: "t", Period: 1}}}, api.Program{Tasks: []api.Task{{Name: "t", Period: 1}, {Name: "t", Period: 1, Body: list(s)}}})
	}
	all = append(all, api.Program{}, api.Program{Sensors: []string{"x"}}, api.Program{Outputs: []string{"x"}}, api.Program{Sensors: []string{"x", "x"}}, api.Program{Sensors: []string{"x"}, Outputs: []string{"x"}}, api.Program{Sensors: []string{""}}, api.Program{Outputs: []string{""}},
		api.Program{Consts: []api.Const{{Name: "x"}}}, api.Program{Globals: []api.Global{{Name: "x"}}}, api.Program{Channels: []api.Channel{{Name: "x"}}}, api.Program{Tasks: []api.Task{{Name: "x"}}},
		api.Program{Globals: []api.Global{{Name: "x", Len: 1}}}, api.Program{Globals: []api.Global{{Name: "x", Init: 1}}}, api.Program{Tasks: []api.Task{{Channel: "x"}}}, api.Program{Tasks: []api.Task{{Param: "x"}}},
		api.Program{Tasks: []api.Task{{Period: 5}}}, api.Program{Tasks: []api.Task{{Within: 5}}}, api.Program{Tasks: []api.Task{{Deadline: 5}}})
	for _, p := range all {
		for _, q := range all {
			checkEqual(t, p, q)
		}
	}
}

// P16.1: all pairs of some short programs, well-formed or not.
func TestEqualAtRandom(t *testing.T) {
	g := generator(6)
	for range 3000 {
		p := g.program()
		q := p
		for range 1 + g.below(3) {
			q = change(&g, q)
		}
		checkEqual(t, p, q)
		r := exact(p)
		number(&r, g.below(100))
		if !checkEqual(t, p, r) {
			t.Fatalf("%+v and %+v differ in positions alone", p, r)
		}
	}
}
