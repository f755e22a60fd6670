package ast

import (
	"reflect"
	"slices"
	"testing"
	"unsafe"

	"trickle/api"
)

// P16.1, P16.2: the result of Strip for the sample: no positions, and everything else.
func TestStripSample(t *testing.T) {
	p := sample()
	before := exact(p)
	q := Strip(p)
	if positions(p) == 0 || positions(q) != 0 || len(sites(&p)) != len(sites(&q)) {
		t.Fatalf("%d positions of %d sites, stripped %d of %d", positions(p), len(sites(&p)), positions(q), len(sites(&q)))
	}
	all, stripped := sites(&p), sites(&q)
	for i, s := range all {
		r := stripped[i]
		switch {
		case r.path != s.path:
			t.Fatalf("%s instead of %s", r.path, s.path)
		case s.isPosition():
			if s.value.Int() == 0 || r.value.Int() != 0 {
				t.Fatalf("%s is %d, stripped %d", s.path, s.value.Int(), r.value.Int())
			}
		case s.value.Kind() == reflect.Slice:
			if s.value.Len() != r.value.Len() {
				t.Fatalf("%s has %d elements, stripped %d", s.path, s.value.Len(), r.value.Len())
			}
		case !s.value.Equal(r.value):
			t.Fatalf("%s is %v, stripped %v", s.path, s.value, r.value)
		}
	}
	if !reflect.DeepEqual(p, before) || Format(p) != Format(q) || Format(q) == "" || !checkEqual(t, p, q) {
		t.Error("Strip changes the program")
	}
	if again := Strip(q); !reflect.DeepEqual(plain(again), plain(q)) || positions(again) != 0 {
		t.Error("Strip changes a program without positions")
	}
}

// P16.1: each kind of position alone, with each edge value.
func TestStripEachPosition(t *testing.T) {
	p := Strip(sample())
	want := exact(p)
	n := 0
	for _, s := range sites(&p) {
		if !s.isPosition() {
			continue
		}
		n++
		for _, pos := range []int64{1, -1, 1 << 40, -1 << 63, 1<<63 - 1} {
			s.value.SetInt(pos)
			if q := Strip(p); n%20 == 1 && !reflect.DeepEqual(plain(q), plain(want)) || positions(q) != 0 || !Equal(q, p) {
				t.Fatalf("%s: Strip returns %+v", s.path, q)
			}
			if s.value.Int() != pos {
				t.Fatalf("%s has become %d", s.path, s.value.Int())
			}
			if n%50 != 0 {
				break
			}
		}
		s.value.SetInt(0)
	}
	if n < 500 {
		t.Errorf("only %d positions", n)
	}
}

// withSpace returns a copy of a program in which every list has memory behind its elements.
func withSpace(p api.Program) api.Program {
	p = exact(p)
	var add func(v reflect.Value)
	add = func(v reflect.Value) {
		switch v.Kind() {
		case reflect.Struct:
			for i := range v.NumField() {
				add(v.Field(i))
			}
		case reflect.Slice:
			for i := range v.Len() {
				add(v.Index(i))
			}
			w := reflect.MakeSlice(v.Type(), v.Len(), v.Len()+3)
			reflect.Copy(w, v)
			v.Set(w)
		}
	}
	add(reflect.ValueOf(&p).Elem())
	return p
}

// P16.2: what the caller changes in the result, in every list at any depth and behind its end, changes nothing in the
// argument; and the other way round.
func TestStripMemory(t *testing.T) {
	g := generator(9)
	for i := range 300 {
		p := g.program()
		if i == 0 {
			p = sample()
		}
		p = withSpace(p)
		before := exact(p)
		q, r := Strip(p), Strip(p)
		want := exact(q)
		spoil(&q)
		if !reflect.DeepEqual(p, before) || !reflect.DeepEqual(exact(r), want) {
			t.Fatalf("changes of the result change the argument %+v", before)
		}
		checkBehind(t, &p)
		spoil(&p)
		if !reflect.DeepEqual(exact(r), want) {
			t.Fatalf("changes of the argument %+v change the result", before)
		}
		checkBehind(t, &r)
	}
}

// checkBehind checks that nothing was written behind the lists of a program, which were made with zero values there.
func checkBehind(t *testing.T, p *api.Program) {
	t.Helper()
	for _, s := range sites(p) {
		if s.value.Kind() != reflect.Slice {
			continue
		}
		behind := s.value.Slice(0, s.value.Cap())
		for i := s.value.Len(); i < behind.Len(); i++ {
			if !behind.Index(i).IsZero() {
				t.Fatalf("%s: the memory behind the list has changed", s.path)
			}
		}
	}
}

// memory returns the addresses of the elements of all lists of a tree, with the space behind them.
func memory[T any](v *T) map[uintptr]bool {
	all := map[uintptr]bool{}
	for _, s := range sites(v) {
		if s.value.Kind() != reflect.Slice {
			continue
		}
		start := s.value.Pointer()
		for i := range s.value.Cap() {
			all[start+uintptr(i)*s.value.Type().Elem().Size()] = true
		}
	}
	return all
}

// P16.2: no list of the result lies at the address of one of the argument, nor two of the result at the same.
func TestStripAddresses(t *testing.T) {
	p := withSpace(sample())
	// All parts of the argument share their memory with others.
	p.Tasks[0].Body, p.Tasks[1].Body = p.Tasks[4].Body, p.Tasks[4].Body
	p.Sensors = p.Outputs
	q := Strip(p)
	given, made := memory(&p), memory(&q)
	for address := range made {
		if given[address] {
			t.Fatal("the result shares memory with the argument")
		}
	}
	n := 0
	for _, s := range sites(&q) {
		if s.value.Kind() == reflect.Slice {
			n += s.value.Cap()
		}
	}
	if n != len(made) {
		t.Errorf("%d elements at %d addresses", n, len(made))
	}
	if unsafe.SliceData(q.Sensors) == unsafe.SliceData(p.Sensors) {
		t.Error("the result shares memory with the argument")
	}
	q.Sensors[0] = "x"
	if p.Sensors[0] == "x" || q.Outputs[0] == "x" || p.Outputs[0] == "x" {
		t.Error("a change is visible elsewhere")
	}
}

// P16.2: random programs, well-formed or not.
func TestStripAtRandom(t *testing.T) {
	g := generator(10)
	for range 2000 {
		p := g.program()
		for range g.below(4) {
			p = change(&g, p)
		}
		q := Strip(p)
		if !checkEqual(t, p, q) || Format(p) != Format(q) || WellFormed(p) != WellFormed(q) || positions(q) != 0 || Size(p) != Size(q) || Depth(p) != Depth(q) {
			t.Fatalf("Strip(%+v) = %+v", p, q)
		}
	}
	for _, p := range []api.Program{{}, {Consts: []api.Const{}, Globals: []api.Global{}, Sensors: []string{}, Outputs: []string{}, Channels: []api.Channel{}, Tasks: []api.Task{}}} {
		if q := Strip(p); !same(q, api.Program{}) {
			t.Errorf("Strip(%+v) = %+v", p, q)
		}
	}
	// Space behind an empty list is no memory of the result.
	space := make([]api.Stmt, 3)
	q := Strip(tasked(space[:0]...))
	q.Tasks[0].Body = append(q.Tasks[0].Body, back())
	if slices.ContainsFunc(space, func(s api.Stmt) bool { return s.Kind != 0 }) {
		t.Error("the result shares the space behind a list")
	}
}
