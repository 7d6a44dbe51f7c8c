package tests

import (
	"testing"

	"roundtable/api"
	"roundtable/complex"
	"roundtable/simplex"
)

// complexOf makes a complex of simplices of vertices with the label 0, which are written as their colors.
func complexOf(t *testing.T, l ...string) api.Complex {
	t.Helper()
	var some [][]api.Vertex
	for _, s := range l {
		some = append(some, letters(s))
	}
	c, e := complex.Of(some)
	good(t, "complex", e)
	return c
}

// letters makes a simplex of digits.
func letters(s string) []api.Vertex {
	var colors []int
	for _, c := range s {
		colors = append(colors, int(c-'0'))
	}
	return corners(colors...)
}

// sketchComplex writes the facets of a complex as digits, and labels behind a slash if they are not 0.
func sketchComplex(c api.Complex, e api.Errno) string {
	if e != api.OK {
		return "error " + string(rune('0'+e/10)) + string(rune('0'+e%10))
	}
	return sketchChain(c.Facets)
}

func sketchChain(l [][]api.Vertex) string {
	text := ""
	for _, f := range l {
		for _, v := range f {
			text += string(rune('0' + v.Color))
			if v.Label != 0 {
				text += "/" + string(rune('0'+v.Label))
			}
		}
		text += " "
	}
	return text
}

type badComplex struct {
	c api.Complex
	e api.Errno
}

func badComplexes() []badComplex {
	l := []badComplex{
		{api.Complex{Facets: make([][]api.Vertex, 4097)}, api.ErrMany}, {api.Complex{Facets: [][]api.Vertex{corners(1), corners(0)}}, api.ErrOrder}, {api.Complex{Facets: [][]api.Vertex{corners(1), corners(1)}}, api.ErrOrder},
		{api.Complex{Facets: [][]api.Vertex{corners(0), corners(0, 1)}}, api.ErrTwice}, {api.Complex{Facets: [][]api.Vertex{corners(0, 1, 2), corners(0, 2)}}, api.ErrTwice},
	}
	for _, x := range badSimplices() {
		l = append(l, badComplex{api.Complex{Facets: [][]api.Vertex{corners(0), x.s}}, x.e})
	}
	return l
}

// wideComplex has more than MaxSize edges, and as many facets as given, of 8 vertices each.
func wideComplex(facets int) api.Complex {
	var c api.Complex
	for i := range facets {
		var s []api.Vertex
		for k := range 8 {
			s = append(s, api.Vertex{Color: k, Label: i})
		}
		c.Facets = append(c.Facets, s)
	}
	return c
}

// P27.1: Check, Of, Contains, Vertices, Simplices, Dimension, Euler and Components.
func TestComplexQuestions(t *testing.T) {
	c := complexOf(t, "23", "1", "012", "23")
	want(t, "of", sketchComplex(c, complex.Check(c)), "012 23 ")
	want(t, "empty", complex.Check(api.Complex{}), api.OK)
	want(t, "of", all(complex.Of(make([][]api.Vertex, 4097))), all(api.Complex{}, api.ErrMany))
	want(t, "contains", all(complex.Contains(c, letters("12"))), "[true 0]")
	want(t, "contains", all(complex.Contains(c, letters("13"))), "[false 0]")
	want(t, "vertices", all(complex.Vertices(c)), all(letters("0123"), api.OK))
	edges, e := complex.Simplices(c, 2)
	want(t, "simplices", all(sketchChain(edges), e), "[01 02 12 23  0]")
	want(t, "simplices", all(complex.Simplices(c, 4)), "[[] 0]")
	want(t, "simplices", all(complex.Simplices(c, 0)), "[[] 2]")
	want(t, "simplices", all(complex.Simplices(c, 9)), "[[] 2]")
	want(t, "dimension", all(complex.Dimension(c)), "[2 false 0]")
	want(t, "dimension", all(complex.Dimension(api.Complex{})), "[-1 true 0]")
	want(t, "dimension", all(complex.Dimension(complexOf(t, "01", "12"))), "[1 true 0]")
	want(t, "euler", all(complex.Euler(c)), "[1 0]")
	want(t, "euler", all(complex.Euler(complexOf(t, "01", "02", "12"))), "[0 0]")
	want(t, "euler", all(complex.Euler(api.Complex{})), "[0 0]")
	want(t, "euler", all(complex.Euler(complexOf(t, "01234567"))), "[1 0]")
	want(t, "components", all(complex.Components(complexOf(t, "01", "23", "14", "5", "36"))), "[[0 0 1 1 2] 0]")
	wide := wideComplex(600)
	want(t, "limit", all(complex.Simplices(wide, 2)), "[[] 17]")
	want(t, "limit", all(complex.Simplices(wide, 1)), "[[] 17]")
	want(t, "limit", all(complex.Euler(wide)), "[0 17]")
	v, e := complex.Vertices(wide)
	want(t, "vertices", all(len(v), e), "[4800 0]")
	for _, x := range badComplexes() {
		want(t, "check", complex.Check(x.c), x.e)
		want(t, "contains", all(complex.Contains(x.c, nil)), all(false, x.e))
		want(t, "vertices", all(complex.Vertices(x.c)), all([]int{}, x.e))
		want(t, "simplices", all(complex.Simplices(x.c, 0)), all([]int{}, x.e))
		want(t, "dimension", all(complex.Dimension(x.c)), all(0, false, x.e))
		want(t, "euler", all(complex.Euler(x.c)), all(0, x.e))
		want(t, "components", all(complex.Components(x.c)), all([]int{}, x.e))
	}
	for _, x := range badSimplices() {
		want(t, "of", all(complex.Of([][]api.Vertex{corners(0), x.s})), all(api.Complex{}, x.e))
		want(t, "contains", all(complex.Contains(c, x.s)), all(false, x.e))
	}
}

// P27.2: Skeleton, Star, Link, Join, Union, Meet, Restrict and Boundary.
func TestComplexParts(t *testing.T) {
	c := complexOf(t, "012", "23")
	want(t, "star", sketchComplex(complex.Star(c, letters("2"))), "012 23 ")
	want(t, "star", sketchComplex(complex.Star(c, letters("3"))), "23 ")
	want(t, "link", sketchComplex(complex.Link(c, letters("2"))), "01 3 ")
	want(t, "link", sketchComplex(complex.Link(c, letters("0"))), "12 ")
	want(t, "link", sketchComplex(complex.Link(c, letters("23"))), "")
	want(t, "none", sketchComplex(complex.Star(c, letters("13"))), "error 06")
	want(t, "none", sketchComplex(complex.Link(c, letters("4"))), "error 06")
	want(t, "skeleton", sketchComplex(complex.Skeleton(c, 2)), "01 02 12 23 ")
	want(t, "skeleton", sketchComplex(complex.Skeleton(c, 3)), "012 23 ")
	want(t, "skeleton", sketchComplex(complex.Skeleton(c, 1)), "0 1 2 3 ")
	want(t, "skeleton", sketchComplex(complex.Skeleton(c, 0)), "")
	want(t, "skeleton", sketchComplex(complex.Skeleton(c, 9)), "error 02")
	want(t, "skeleton", sketchComplex(complex.Skeleton(c, -1)), "error 02")
	want(t, "skeleton", sketchComplex(complex.Skeleton(wideComplex(600), 2)), "error 17")
	want(t, "join", sketchComplex(complex.Join(complexOf(t, "0", "1"), complexOf(t, "23", "4"))), "023 04 123 14 ")
	want(t, "join", sketchComplex(complex.Join(c, api.Complex{})), "012 23 ")
	want(t, "join", sketchComplex(complex.Join(c, complexOf(t, "3"))), "error 07")
	want(t, "join", sketchComplex(complex.Join(complexOf(t, "01234"), api.Complex{Facets: [][]api.Vertex{corners(5, 6, 7), {{Color: 5, Label: 1}, {Color: 5, Label: 2}, {Color: 5, Label: 3}, {Color: 5, Label: 4}}}})), "error 05")
	points := func(color, n int) api.Complex {
		var p api.Complex
		for i := range n {
			p.Facets = append(p.Facets, []api.Vertex{{Color: color, Label: i}})
		}
		return p
	}
	want(t, "join", sketchComplex(complex.Join(points(0, 65), points(1, 64))), "error 05")
	want(t, "union", sketchComplex(complex.Union(c, complexOf(t, "123", "04"))), "012 04 123 ")
	want(t, "union", sketchComplex(complex.Union(points(0, 3000), points(1, 3000))), "error 05")
	want(t, "meet", sketchComplex(complex.Meet(c, complexOf(t, "123", "04"))), "0 12 23 ")
	want(t, "meet", sketchComplex(complex.Meet(c, api.Complex{})), "")
	want(t, "meet", sketchComplex(complex.Meet(points(0, 300), points(1, 300))), "error 17")
	want(t, "restrict", sketchComplex(complex.Restrict(c, 5)), "02 ")
	want(t, "restrict", sketchComplex(complex.Restrict(c, 16)), "")
	want(t, "boundary", sketchComplex(complex.Boundary(complexOf(t, "012", "123"))), "01 02 13 23 ")
	want(t, "boundary", sketchComplex(complex.Boundary(complexOf(t, "01", "02", "12"))), "")
	for _, bad := range []api.Complex{c, {}, complexOf(t, "0", "1"), complexOf(t, "01", "02", "03")} {
		want(t, "boundary", sketchComplex(complex.Boundary(bad)), "error 15")
	}
	for _, x := range badComplexes() {
		want(t, "skeleton", all(complex.Skeleton(x.c, -1)), all(api.Complex{}, x.e))
		want(t, "star", all(complex.Star(x.c, nil)), all(api.Complex{}, x.e))
		want(t, "link", all(complex.Link(x.c, nil)), all(api.Complex{}, x.e))
		want(t, "join", all(complex.Join(c, x.c)), all(api.Complex{}, x.e))
		want(t, "union", all(complex.Union(x.c, c)), all(api.Complex{}, x.e))
		want(t, "meet", all(complex.Meet(c, x.c)), all(api.Complex{}, x.e))
		want(t, "restrict", all(complex.Restrict(x.c, 0)), all(api.Complex{}, x.e))
		want(t, "boundary", all(complex.Boundary(x.c)), all(api.Complex{}, x.e))
	}
	for _, x := range badSimplices() {
		want(t, "star", all(complex.Star(c, x.s)), all(api.Complex{}, x.e))
		want(t, "link", all(complex.Link(c, x.s)), all(api.Complex{}, x.e))
	}
}

// P27.3: consequences.
func TestComplexLaws(t *testing.T) {
	var random source
	for range 100 {
		make2 := func() api.Complex {
			var l [][]api.Vertex
			for range 4 {
				s, _ := simplex.Restrict(letters("012345"), 1+random.below(63))
				l = append(l, s)
			}
			c, _ := complex.Of(l)
			return c
		}
		c, d := make2(), make2()
		var l [][]api.Vertex
		for k := 1; k <= 6; k++ {
			some, _ := complex.Simplices(c, k)
			l = append(l, some...)
		}
		want(t, "of all", sketchComplex(complex.Of(l)), sketchComplex(c, api.OK))
		u, _ := complex.Union(c, d)
		m, _ := complex.Meet(c, d)
		euler := func(c api.Complex) int { x, _ := complex.Euler(c); return x }
		want(t, "euler", euler(u), euler(c)+euler(d)-euler(m))
		cone, e := complex.Join(c, complexOf(t, "7"))
		good(t, "join", e)
		link, _ := complex.Link(c, c.Facets[0][:1])
		joined, _ := complex.Join(link, complexOf(t, "7"))
		if len(link.Facets) == 0 {
			joined = complexOf(t, "7")
		}
		want(t, "link", sketchComplex(complex.Link(cone, c.Facets[0][:1])), sketchComplex(joined, api.OK))
		want(t, "cone", euler(cone), 1)
		parts, _ := complex.Components(u)
		for i, f := range u.Facets {
			for k, g := range u.Facets {
				if s, _ := simplex.Meet(f, g); len(s) > 0 {
					want(t, "component", parts[i], parts[k])
				}
			}
		}
	}
}
