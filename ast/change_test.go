package ast

import (
	"reflect"
	"slices"
)

// changes returns copies of a tree in which one site, by its number, is something else: a number each of the edges
// that it can be, a text each of a few names, and a list other ones of nearly the same length. The tree itself is among them.
func changes[T any](v T, i int) []T {
	var all []T
	for _, set := range settings(sites(&v)[i].value) {
		w := exact(v)
		set(sites(&w)[i].value)
		all = append(all, w)
	}
	return all
}

// change returns a copy of a tree in which one site, or sometimes none, is something else.
func change[T any](g *generator, v T) T {
	w := exact(v)
	s := pick(g, sites(&w)).value
	pick(g, settings(s))(s)
	return w
}

// settings returns ways to set a site, none of which writes to the elements of a list.
func settings(v reflect.Value) []func(reflect.Value) {
	var all []func(reflect.Value)
	switch v.Kind() {
	case reflect.String:
		for _, s := range append(fewNames(), v.String()+"x") {
			all = append(all, func(v reflect.Value) { v.SetString(s) })
		}
	case reflect.Slice:
		return listSettings(v.Len())
	default:
		for _, n := range append(edges(), v.Int()+1, v.Int()-1) {
			if !v.OverflowInt(n) {
				all = append(all, func(v reflect.Value) { v.SetInt(n) })
			}
		}
	}
	return all
}

// listSettings returns ways to set a list of a length: without elements in two ways, without its first or last element,
// with an element twice, with a zero element at each end, and with two elements exchanged.
func listSettings(n int) []func(reflect.Value) {
	all := []func(reflect.Value){
		func(v reflect.Value) {},
		func(v reflect.Value) { v.SetZero() },
		func(v reflect.Value) { v.Set(reflect.MakeSlice(v.Type(), 0, 0)) },
		func(v reflect.Value) { v.Set(reflect.MakeSlice(v.Type(), 0, 3)) },
		func(v reflect.Value) { v.Set(reflect.Append(v, reflect.Zero(v.Type().Elem()))) },
		func(v reflect.Value) {
			v.Set(reflect.AppendSlice(reflect.MakeSlice(v.Type(), 1, 1), v))
		},
	}
	if n > 0 {
		all = append(all,
			func(v reflect.Value) { v.Set(v.Slice(1, n)) },
			func(v reflect.Value) { v.Set(v.Slice(0, n-1)) },
			func(v reflect.Value) { v.Set(reflect.Append(v, again(v.Index(0)))) },
			func(v reflect.Value) { v.Set(reflect.Append(v, again(v.Index(n-1)))) },
		)
	}
	if n > 1 {
		all = append(all, func(v reflect.Value) {
			w := again(v)
			reflect.Swapper(w.Interface())(0, n-1)
			v.Set(w)
		})
	}
	return slices.Clip(all)
}

// restore returns a function that sets a site to what it is now.
func restore(v reflect.Value) func() {
	w := reflect.New(v.Type()).Elem()
	w.Set(v)
	return func() { v.Set(w) }
}

// again returns a copy of a part of a tree.
func again(v reflect.Value) reflect.Value {
	w := reflect.New(v.Type()).Elem()
	makeExact(w, v)
	return w
}
