package tests

import (
	"testing"

	"roundtable/api"
	"roundtable/graph"
	"roundtable/permutation"
)

// graphOf reads a graph that is known to be right.
func graphOf(t *testing.T, text string) api.Graph {
	t.Helper()
	g, e := graph.Parse(text)
	good(t, text, e)
	return g
}

// graphText returns a function that writes a graph beside its error.
func graphText(g api.Graph, e api.Errno) string {
	if e != api.OK {
		return string(rune('A' + int(e)))
	}
	s, _ := graph.Format(g)
	return s
}

// badGraphs are graphs with their errors.
var badGraphs = []struct {
	g api.Graph
	e api.Errno
}{
	{api.Graph{}, api.ErrRange},
	{api.Graph{N: 6}, api.ErrRange},
	{api.Graph{N: 2, Hears: [5]int{1, 2, 4}}, api.ErrForm},
	{api.Graph{N: 2, Hears: [5]int{4, 2}}, api.ErrRange},
	{api.Graph{N: 2, Hears: [5]int{-1, 2}}, api.ErrRange},
	{api.Graph{N: 2, Hears: [5]int{2, 9}}, api.ErrForm},
	{api.Graph{N: 2, Hears: [5]int{1, 1}}, api.ErrForm},
}

// P3.1: Check, Compare, Complete, Silent, Compose, Permute, Reverse and Union.
func TestGraphProducts(t *testing.T) {
	g := graphOf(t, "012 01 12")
	two := graphOf(t, "01 01")
	want(t, "check", graph.Check(g), api.OK)
	want(t, "compose", graphText(graph.Compose(g, g)), "012 012 012")
	want(t, "compose", graphText(graph.Compose(graphOf(t, "0 01 2"), graphOf(t, "0 1 12"))), "0 01 012")
	want(t, "permute", graphText(graph.Permute(g, []int{1, 2, 0})), "02 012 12")
	want(t, "reverse", graphText(graph.Reverse(g)), "01 012 02")
	want(t, "union", graphText(graph.Union(graphOf(t, "0 01 2"), graphOf(t, "02 1 2"))), "02 01 2")
	want(t, "complete", graphText(graph.Complete(2)), "01 01")
	want(t, "silent", graphText(graph.Silent(2)), "0 1")
	want(t, "compare", []int{graph.Compare(two, g), graph.Compare(g, g), graph.Compare(api.Graph{Hears: [5]int{0, 0, 0, 0, 2}}, api.Graph{Hears: [5]int{0, 0, 0, 0, 1}})}, "[-1 0 1]")
	for _, n := range []int{-1, 0, 6} {
		want(t, "complete", all(graph.Complete(n)), all(api.Graph{}, api.ErrRange))
		want(t, "silent", all(graph.Silent(n)), all(api.Graph{}, api.ErrRange))
	}
	for _, x := range badGraphs {
		want(t, "check", graph.Check(x.g), x.e)
		want(t, "compose", all(graph.Compose(g, x.g)), all(api.Graph{}, x.e))
		want(t, "union", all(graph.Union(x.g, api.Graph{})), all(api.Graph{}, x.e))
		want(t, "permute", all(graph.Permute(x.g, nil)), all(api.Graph{}, x.e))
		want(t, "reverse", all(graph.Reverse(x.g)), all(api.Graph{}, x.e))
	}
	want(t, "mismatch", all(graph.Compose(g, two)), all(api.Graph{}, api.ErrMismatch))
	want(t, "mismatch", all(graph.Union(g, two)), all(api.Graph{}, api.ErrMismatch))
	want(t, "mismatch", all(graph.Permute(g, []int{1, 0})), all(api.Graph{}, api.ErrMismatch))
	want(t, "twice", all(graph.Permute(g, []int{1, 1})), all(api.Graph{}, api.ErrTwice))
}

// P3.2: Inside, Edges, Kernel, Roots, Nonsplit, All, Format and Parse.
func TestGraphProperties(t *testing.T) {
	g := graphOf(t, "012 01 12")
	want(t, "edges", all(graph.Edges(g)), "[4 0]")
	want(t, "kernel", all(graph.Kernel(g)), "[2 0]")
	want(t, "roots", all(graph.Roots(g)), "[7 0]")
	want(t, "roots", all(graph.Roots(graphOf(t, "0 01 12"))), "[1 0]")
	want(t, "roots", all(graph.Roots(graphOf(t, "0 1"))), "[0 0]")
	want(t, "nonsplit", all(graph.Nonsplit(g)), "[true 0]")
	want(t, "nonsplit", all(graph.Nonsplit(graphOf(t, "0 01 02 3"))), "[false 0]")
	want(t, "inside", all(graph.Inside(graphOf(t, "0 01 2"), g)), "[true 0]")
	want(t, "inside", all(graph.Inside(g, graphOf(t, "0 01 2"))), "[false 0]")
	want(t, "inside", all(graph.Inside(g, graphOf(t, "0 1"))), "[false 22]")
	for n, number := range []int{0, 1, 4, 64, 4096} {
		l, e := graph.All(n)
		want(t, "all", len(l), number)
		want(t, "all", e != api.OK, n == 0)
		for i := 1; i < len(l); i++ {
			want(t, "order", graph.Compare(l[i-1], l[i]), -1)
		}
	}
	want(t, "all", all(graph.All(5)), "[[] 17]")
	want(t, "all", all(graph.All(6)), "[[] 2]")
	for _, x := range badGraphs {
		want(t, "edges", all(graph.Edges(x.g)), all(0, x.e))
		want(t, "kernel", all(graph.Kernel(x.g)), all(0, x.e))
		want(t, "roots", all(graph.Roots(x.g)), all(0, x.e))
		want(t, "nonsplit", all(graph.Nonsplit(x.g)), all(false, x.e))
		want(t, "format", all(graph.Format(x.g)), all("", x.e))
		want(t, "inside", all(graph.Inside(x.g, g)), all(false, x.e))
	}
	for _, s := range []string{"", " ", "01 0", "10 1", "00 1", "0  1", "0 1 ", "02 1", "0 1 2 3 4 5", "a", "0\n1"} {
		want(t, "parse "+s, all(graph.Parse(s)), all(api.Graph{}, api.ErrSyntax))
	}
}

// P3.3: consequences.
func TestGraphLaws(t *testing.T) {
	l, _ := graph.All(3)
	pi := []int{2, 0, 1}
	for i, a := range l {
		text, _ := graph.Format(a)
		want(t, "text", all(graph.Parse(text)), all(a, api.OK))
		roots, _ := graph.Roots(a)
		if square, _ := graph.Compose(a, a); roots != 0 {
			want(t, "nonsplit", all(graph.Nonsplit(square)), "[true 0]")
			want(t, "kernel", all(graph.Kernel(square)), all(roots, api.OK))
		}
		for _, b := range l {
			c := l[(i*7+3)%len(l)]
			ab, _ := graph.Compose(a, b)
			bc, _ := graph.Compose(b, c)
			want(t, "associative", graphText(graph.Compose(ab, c)), graphText(graph.Compose(a, bc)))
			x, _ := graph.Permute(a, pi)
			y, _ := graph.Permute(b, pi)
			want(t, "renamed", graphText(graph.Compose(x, y)), graphText(graph.Permute(ab, pi)))
			x, _ = graph.Reverse(a)
			y, _ = graph.Reverse(b)
			want(t, "reversed", graphText(graph.Compose(y, x)), graphText(graph.Reverse(ab)))
			u, _ := graph.Union(b, c)
			ac, _ := graph.Compose(a, c)
			want(t, "distributive", graphText(graph.Compose(a, u)), graphText(graph.Union(ab, ac)))
		}
	}
	one, _ := graph.Silent(3)
	perms, _ := permutation.All(3)
	for _, p := range perms {
		want(t, "silent", graphText(graph.Permute(one, p)), "0 1 2")
	}
}
