package diag

import (
	"cmp"
	"maps"
	"slices"

	"trickle/api"
)

// List collects diagnostics in order of their positions; equal ones are kept once.
type List struct {
	// A set, because neither the order of the calls of Add nor their number for one diagnostic matters.
	all map[api.Diagnostic]bool
}

// Add adds a diagnostic, unless the list contains an equal one.
func (l *List) Add(pos int, text string) {
	if l.all == nil {
		l.all = map[api.Diagnostic]bool{}
	}
	l.all[api.Diagnostic{Pos: pos, Text: text}] = true
}

// Err reports whether there are any diagnostics.
func (l *List) Err() bool {
	return len(l.all) > 0
}

// All returns the diagnostics in ascending order of positions, and those of one position in that of texts.
func (l *List) All() []api.Diagnostic {
	return slices.SortedFunc(maps.Keys(l.all), compare)
}

func compare(a, b api.Diagnostic) int {
	return cmp.Or(cmp.Compare(a.Pos, b.Pos), cmp.Compare(a.Text, b.Text))
}
