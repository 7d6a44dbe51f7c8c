// Package vertices compares and counts lists of vertices that are known to be simplices.
package vertices

import (
	"slices"

	"roundtable/api"
	"roundtable/simplex"
)

// Key is a simplex that can be found in a map.
type Key [api.MaxDim]api.Vertex

// KeyOf returns the key of a simplex; the places behind its vertices are filled with a vertex that does not exist.
func KeyOf(s []api.Vertex) Key {
	var k Key
	for i := copy(k[:], s); i < len(k); i++ {
		k[i] = api.Vertex{Color: -1}
	}
	return k
}

// Inside reports whether all vertices of a are vertices of b.
func Inside(a, b []api.Vertex) bool {
	if len(a) > len(b) {
		return false
	}
	for _, v := range a {
		i := slices.Index(b, v)
		if i < 0 {
			return false
		}
		b = b[i+1:]
	}
	return true
}

// Unique returns the simplices of a list in ascending order, each once.
func Unique(l [][]api.Vertex) [][]api.Vertex {
	sorted := slices.SortedFunc(slices.Values(l), simplex.Compare)
	return slices.CompactFunc(sorted, slices.Equal[[]api.Vertex])
}

// having returns for each vertex the simplices that have it.
func having(l [][]api.Vertex) map[api.Vertex][][]api.Vertex {
	m := map[api.Vertex][][]api.Vertex{}
	for _, s := range l {
		for _, v := range s {
			m[v] = append(m[v], s)
		}
	}
	return m
}

// search returns a function that reports whether some simplex of a list has all vertices of a given one, and satisfies a condition with it.
func search(l [][]api.Vertex, fits func(s, t []api.Vertex) bool) func(s []api.Vertex) bool {
	m := having(l)
	return func(s []api.Vertex) bool {
		return slices.ContainsFunc(candidates(m, s), func(t []api.Vertex) bool { return fits(s, t) && Inside(s, t) })
	}
}

// candidates returns the shortest list of simplices among those that have a vertex of a given one.
func candidates(m map[api.Vertex][][]api.Vertex, s []api.Vertex) [][]api.Vertex {
	shortest := m[s[0]]
	for _, v := range s[1:] {
		if len(m[v]) < len(shortest) {
			shortest = m[v]
		}
	}
	return shortest
}

// Holders returns a function that returns the number of the simplices of a list of which a simplex is a face.
func Holders(l [][]api.Vertex) func(s []api.Vertex) int {
	m := having(l)
	return func(s []api.Vertex) int {
		number := 0
		for _, t := range candidates(m, s) {
			if Inside(s, t) {
				number++
			}
		}
		return number
	}
}

// Covered returns a function that reports whether a simplex is a proper face of one of a list.
func Covered(l [][]api.Vertex) func(s []api.Vertex) bool {
	return search(l, func(s, t []api.Vertex) bool { return len(t) > len(s) })
}

// Among returns a function that reports whether a simplex is a face of one of a list.
func Among(l [][]api.Vertex) func(s []api.Vertex) bool {
	return search(l, func(s, t []api.Vertex) bool { return true })
}

// Maximal returns the simplices of a list that are not proper faces of others, in ascending order, each once.
func Maximal(l [][]api.Vertex) [][]api.Vertex {
	unique := Unique(l)
	return slices.DeleteFunc(unique, Covered(slices.Clone(unique)))
}
