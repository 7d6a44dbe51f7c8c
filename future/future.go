// Package future replaces views in the views that heard them.
package future

import (
	"iter"

	"roundtable/api"
)

// None stands for a view that does not exist.
const None = -1

// Views is a table of views with their indices, and for each view the later ones that heard it.
type Views struct {
	table   api.Table
	numbers map[api.View]int
	heard   [][]int
}

// Of returns the views of a table that is known to be right.
func Of(t api.Table) Views {
	x := Views{table: t, numbers: make(map[api.View]int, len(t.Views)), heard: make([][]int, len(t.Views))}
	for i, v := range t.Views {
		x.numbers[v] = i
		for _, k := range v.Heard {
			if k >= 0 {
				x.heard[k] = append(x.heard[k], i)
			}
		}
	}
	return x
}

// Hearing yields the views that heard a view, in ascending order.
func (x Views) Hearing(v int) iter.Seq[int] {
	return func(yield func(int) bool) {
		for _, u := range x.heard[v] {
			if !yield(u) {
				return
			}
		}
	}
}

// Heard reports whether a view heard another one.
func (x Views) Heard(u, v int) bool {
	return x.table.Views[u].Heard[x.table.Views[v].Proc] == v
}

// Replaced returns the view that is equal to u, but has w of the same process in the place of v, or None.
func (x Views) Replaced(u, v, w int) int {
	view := x.table.Views[u]
	view.Heard[x.table.Views[v].Proc] = w
	if i, ok := x.numbers[view]; ok {
		return i
	}
	return None
}

// Context returns a view without what it heard of a process.
func (x Views) Context(u, proc int) api.View {
	view := x.table.Views[u]
	view.Heard[proc] = None
	return view
}
