package tests

import (
	"math"
	"testing"

	"roundtable/api"
	"roundtable/simplex"
)

// corners makes a simplex of vertices with the label 0.
func corners(colors ...int) []api.Vertex {
	var s []api.Vertex
	for _, c := range colors {
		s = append(s, api.Vertex{Color: c})
	}
	return s
}

type badSimplex struct {
	s []api.Vertex
	e api.Errno
}

func badSimplices() []badSimplex {
	return []badSimplex{
		{nil, api.ErrEmpty}, {make([]api.Vertex, 9), api.ErrMany}, {corners(0, 8), api.ErrRange}, {corners(-1), api.ErrRange}, {[]api.Vertex{{Label: -1}}, api.ErrRange}, {[]api.Vertex{{Label: api.MaxNumber + 1}}, api.ErrRange},
		{corners(1, 1), api.ErrOrder}, {corners(1, 0, 9), api.ErrOrder}, {[]api.Vertex{{Color: 1, Label: 2}, {Color: 1, Label: 1}}, api.ErrOrder},
	}
}

var (
	vertexA, vertexB, vertexC = api.Vertex{Color: 0, Label: 5}, api.Vertex{Color: 1, Label: 0}, api.Vertex{Color: 1, Label: 2}
	triangle                  = []api.Vertex{vertexA, vertexB, vertexC}
)

// P26.1: Check, Compare, Of, Face, Faces, Colors and Chromatic.
func TestSimplexFaces(t *testing.T) {
	a, b, c := vertexA, vertexB, vertexC
	want(t, "check", simplex.Check(triangle), api.OK)
	want(t, "of", all(simplex.Of([]api.Vertex{b, a, b})), all([]api.Vertex{a, b}, api.OK))
	want(t, "of", all(simplex.Of(nil)), "[[] 16]")
	want(t, "of", all(simplex.Of(make([]api.Vertex, 100))), all([]api.Vertex{{}}, api.OK))
	want(t, "of", all(simplex.Of(append(make([]api.Vertex, 100), api.Vertex{Color: 8}))), "[[] 2]")
	want(t, "of", all(simplex.Of([]api.Vertex{a, b, c, {Color: 2}, {Color: 3}, {Color: 4}, {Color: 5}, {Color: 6}, {Color: 7}})), "[[] 5]")
	want(t, "faces", all(simplex.Faces(triangle, 2)), all([][]api.Vertex{{a, b}, {a, c}, {b, c}}, api.OK))
	want(t, "faces", all(simplex.Faces(triangle, 3)), all([][]api.Vertex{triangle}, api.OK))
	want(t, "faces", all(simplex.Faces(triangle, 0)), "[[] 2]")
	want(t, "faces", all(simplex.Faces(triangle, 4)), "[[] 2]")
	want(t, "face", all(simplex.Face([]api.Vertex{a, c}, triangle)), "[true 0]")
	want(t, "face", all(simplex.Face(triangle, []api.Vertex{a, c})), "[false 0]")
	want(t, "face", all(simplex.Face(corners(0), triangle)), "[false 0]")
	want(t, "compare", []int{simplex.Compare([]api.Vertex{a}, []api.Vertex{a, b}), simplex.Compare([]api.Vertex{b}, []api.Vertex{a, b}), simplex.Compare(triangle, triangle), simplex.Compare(nil, nil), simplex.Compare([]api.Vertex{{Label: math.MinInt}}, []api.Vertex{{Label: math.MaxInt}})}, "[-1 1 0 0 -1]")
	want(t, "colors", all(simplex.Colors(triangle)), "[3 0]")
	want(t, "chromatic", all(simplex.Chromatic(triangle)), "[false 0]")
	want(t, "chromatic", all(simplex.Chromatic([]api.Vertex{a, c})), "[true 0]")
	for _, x := range badSimplices() {
		want(t, "check", simplex.Check(x.s), x.e)
		want(t, "face", all(simplex.Face(triangle, x.s)), all(false, x.e))
		want(t, "faces", all(simplex.Faces(x.s, 0)), all([]int{}, x.e))
		want(t, "colors", all(simplex.Colors(x.s)), all(0, x.e))
		want(t, "chromatic", all(simplex.Chromatic(x.s)), all(false, x.e))
	}
}

// P26.2: Union, Meet, Without, Join and Restrict.
func TestSimplexSets(t *testing.T) {
	a, b, c := vertexA, vertexB, vertexC
	ab, bc := []api.Vertex{a, b}, []api.Vertex{b, c}
	want(t, "union", all(simplex.Union(ab, bc)), all(triangle, api.OK))
	want(t, "meet", all(simplex.Meet(ab, bc)), all([]api.Vertex{b}, api.OK))
	want(t, "meet", all(simplex.Meet(ab, []api.Vertex{c})), "[[] 0]")
	want(t, "without", all(simplex.Without(ab, bc)), all([]api.Vertex{a}, api.OK))
	want(t, "without", all(simplex.Without(ab, triangle)), "[[] 0]")
	want(t, "join", all(simplex.Join(ab, []api.Vertex{c})), all(triangle, api.OK))
	want(t, "join", all(simplex.Join(ab, bc)), "[[] 7]")
	want(t, "restrict", all(simplex.Restrict(triangle, 2)), all(bc, api.OK))
	want(t, "restrict", all(simplex.Restrict(triangle, -4)), "[[] 0]")
	want(t, "restrict", all(simplex.Restrict(triangle, -1)), all(triangle, api.OK))
	large := corners(0, 1, 2, 3, 4, 5)
	want(t, "many", all(simplex.Union(large, triangle)), all(append([]api.Vertex{{}, a, b, c}, corners(2, 3, 4, 5)...), api.OK))
	want(t, "many", all(simplex.Union(corners(0, 1, 2, 3, 4, 5, 6), triangle)), "[[] 5]")
	want(t, "many", all(simplex.Join(corners(0, 2, 3, 4, 5, 6), triangle)), "[[] 5]")
	for _, x := range badSimplices() {
		want(t, "union", all(simplex.Union(ab, x.s)), all([]int{}, x.e))
		want(t, "meet", all(simplex.Meet(x.s, nil)), all([]int{}, x.e))
		want(t, "without", all(simplex.Without(ab, x.s)), all([]int{}, x.e))
		want(t, "join", all(simplex.Join(x.s, ab)), all([]int{}, x.e))
		want(t, "restrict", all(simplex.Restrict(x.s, 0)), all([]int{}, x.e))
	}
}

// P26.3: consequences.
func TestSimplexLaws(t *testing.T) {
	s := []api.Vertex{vertexA, vertexB, vertexC, {Color: 3}, {Color: 3, Label: 9}}
	var l [][]api.Vertex
	for k, number := range []int{0, 5, 10, 10, 5, 1} {
		if k > 0 {
			faces, _ := simplex.Faces(s, k)
			want(t, "number", len(faces), number)
			l = append(l, faces...)
		}
	}
	for _, a := range l {
		want(t, "face", all(simplex.Face(a, s)), "[true 0]")
		x, _ := simplex.Restrict(a, 9)
		y, _ := simplex.Restrict(a, ^9)
		want(t, "divided", len(x)+len(y), len(a))
		for _, b := range l {
			want(t, "total", simplex.Compare(a, b), -simplex.Compare(b, a))
			u, _ := simplex.Union(a, b)
			want(t, "absorb", all(simplex.Meet(a, u)), all(a, api.OK))
			m, _ := simplex.Meet(a, b)
			rest, _ := simplex.Without(a, b)
			want(t, "sizes", len(m)+len(rest), len(a))
			c := l[7]
			uc, _ := simplex.Meet(u, c)
			ac, _ := simplex.Meet(a, c)
			bc, _ := simplex.Meet(b, c)
			if len(ac) > 0 && len(bc) > 0 {
				want(t, "distributive", all(simplex.Union(ac, bc)), all(uc, api.OK))
			}
		}
	}
}
