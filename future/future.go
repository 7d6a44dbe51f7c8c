// Package future replaces views in the views that heard them.
package future

import (
	"iter"
	"slices"
	"strconv"

	"roundtable/api"
)

// None stands for a view that does not exist.
const None = -1

// Views is a table of views with their indices, and for each view the later ones that heard it.
type Views struct {
	table   api.Table
	numbers map[api.View]int
	heard   [][]int
}

// Of returns the views of a table that is known to be right.
func Of(t api.Table) Views {
	x := Views{table: t, numbers: make(map[api.View]int, len(t.Views)), heard: make([][]int, len(t.Views))}
	for i, v := range t.Views {
		x.numbers[v] = i
		for _, k := range v.Heard {
			if k >= 0 {
				x.heard[k] = append(x.heard[k], i)
			}
		}
	}
	return x
}

// Hearing yields the views that heard a view, in ascending order.
func (x Views) Hearing(v int) iter.Seq[int] {
	return func(yield func(int) bool) {
		for _, u := range x.heard[v] {
			if !yield(u) {
				return
			}
		}
	}
}

// Heard reports whether a view heard another one.
func (x Views) Heard(u, v int) bool {
	return x.table.Views[u].Heard[x.table.Views[v].Proc] == v
}

// Replaced returns the view that is equal to u, but has w of the same process in the place of v, or None.
func (x Views) Replaced(u, v, w int) int {
	view := x.table.Views[u]
	view.Heard[x.table.Views[v].Proc] = w
	if i, ok := x.numbers[view]; ok {
		return i
	}
	return None
}

// Context returns a view without what it heard of a process.
func (x Views) Context(u, proc int) api.View {
	view := x.table.Views[u]
	view.Heard[proc] = None
	return view
}

// Symbols returns for each class of views the symbol that says enough of it to a receiver: it numbers the classes of a sender after some rounds, and classes that make no difference for the receiver have the same number. It is None for all other classes.
func (x Views) Symbols(classes []int, round, from, to int) []int {
	var symbols []int
	contexts := map[api.View]int{}
	texts := map[string]int{}
	for v, class := range classes {
		if class < len(symbols) {
			continue // any view of a class will do, if views of a class are replaced by views of a class
		}
		symbols = append(symbols, None)
		if view := x.table.Views[v]; view.Proc != from || view.Round != round {
			continue
		}
		text := x.text(v, to, classes, contexts)
		if _, ok := texts[text]; !ok {
			texts[text] = len(texts)
		}
		symbols[class] = texts[text]
	}
	return symbols
}

// text writes what a view is for a receiver: the contexts in which it is heard, with the classes of the views that heard it.
func (x Views) text(v, to int, classes []int, contexts map[api.View]int) string {
	var parts [][2]int
	for u := range x.Hearing(v) {
		if x.table.Views[u].Proc != to {
			continue
		}
		c := x.Context(u, x.table.Views[v].Proc)
		if _, ok := contexts[c]; !ok {
			contexts[c] = len(contexts)
		}
		parts = append(parts, [2]int{contexts[c], classes[u]})
	}
	slices.SortFunc(parts, func(a, b [2]int) int { return slices.Compare(a[:], b[:]) })
	var b []byte
	for _, p := range parts {
		b = append(strconv.AppendInt(b, int64(p[0]), 10), ' ')
		b = append(strconv.AppendInt(b, int64(p[1]), 10), ' ')
	}
	return string(b)
}
