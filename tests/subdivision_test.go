package tests

import (
	"testing"

	"roundtable/api"
	"roundtable/complex"
	"roundtable/simplex"
	"roundtable/subdivision"
)

// P29.1: Partitions, Facet, Simplex, Check and Carrier.
func TestSubdivisionSimplices(t *testing.T) {
	s := []api.Vertex{{Color: 0, Label: 5}, {Color: 1}}
	want(t, "partitions", all(subdivision.Partitions(2)), "[[[1 2] [2 1] [3]] 0]")
	for n, number := range []int{0, 1, 3, 13, 75, 541} {
		l, e := subdivision.Partitions(n)
		want(t, "number", all(len(l), e == api.OK), all(number, n > 0))
	}
	want(t, "partitions", all(subdivision.Partitions(6)), "[[] 2]")
	want(t, "facet", all(subdivision.Facet(s, []int{2, 1})), "[[{0 3} {1 2}] 0]")
	eight := corners(0, 1, 2, 3, 4, 5, 6, 7)
	want(t, "facet", all(subdivision.Facet(eight, []int{255})), "[[{0 255} {1 255} {2 255} {3 255} {4 255} {5 255} {6 255} {7 255}] 0]")
	for _, blocks := range [][]int{nil, {1}, {1, 1, 2}, {1, 3}, {4, 3}, {0, 3}, {-1, 3}, {7}} {
		want(t, "facet", all(subdivision.Facet(s, blocks)), "[[] 15]")
	}
	want(t, "facet", all(subdivision.Facet(triangle, nil)), "[[] 3]")
	d, e := subdivision.Simplex(s)
	want(t, "simplex", sketchComplex(d.Complex, e), "0/11/3 0/31/2 0/31/3 ")
	want(t, "simplex", all(d.Vertices, d.Carriers), "[[{0 1} {0 3} {1 2} {1 3}] [[{0 5}] [{0 5} {1 0}] [{1 0}] [{0 5} {1 0}]]]")
	want(t, "simplex", all(subdivision.Simplex(triangle)), all(api.Subdivision{}, api.ErrForm))
	want(t, "simplex", all(subdivision.Simplex(corners(0, 1, 2, 3, 4, 5))), all(api.Subdivision{}, api.ErrMany))
	base := api.Complex{Facets: [][]api.Vertex{s}}
	want(t, "check", subdivision.Check(base, d), api.OK)
	want(t, "carrier", all(subdivision.Carrier(base, d, []api.Vertex{{Color: 0, Label: 1}})), "[[{0 5}] 0]")
	want(t, "carrier", all(subdivision.Carrier(base, d, d.Complex.Facets[0])), all(s, api.OK))
	want(t, "carrier", all(subdivision.Carrier(base, d, []api.Vertex{{Color: 0, Label: 1}, {Color: 1, Label: 2}})), "[[] 6]")
	want(t, "carrier", all(subdivision.Carrier(base, d, nil)), "[[] 16]")
	for i, x := range []struct {
		change func(d *api.Subdivision)
		e      api.Errno
	}{
		{func(d *api.Subdivision) { d.Complex.Facets = d.Complex.Facets[1:] }, api.ErrShape}, {func(d *api.Subdivision) { d.Carriers = d.Carriers[1:] }, api.ErrShape}, {func(d *api.Subdivision) { d.Vertices[0].Label = 0 }, api.ErrShape},
		{func(d *api.Subdivision) { d.Carriers[0] = nil }, api.ErrEmpty}, {func(d *api.Subdivision) { d.Carriers[0] = corners(0) }, api.ErrNone}, {func(d *api.Subdivision) { d.Complex.Facets[0] = nil }, api.ErrEmpty},
	} {
		bad, _ := subdivision.Simplex(s)
		x.change(&bad)
		want(t, string(rune('a'+i)), subdivision.Check(base, bad), x.e)
		want(t, "carrier", all(subdivision.Carrier(base, bad, nil)), all([]int{}, x.e))
	}
	want(t, "mismatch", subdivision.Check(api.Complex{Facets: [][]api.Vertex{s[:1], s[1:]}}, api.Subdivision{Complex: base, Vertices: s, Carriers: [][]api.Vertex{s[:1], s[1:]}}), api.ErrMismatch)
	for _, x := range badComplexes() {
		want(t, "check", subdivision.Check(x.c, api.Subdivision{Complex: api.Complex{Facets: [][]api.Vertex{nil}}}), x.e)
		want(t, "check", subdivision.Check(base, api.Subdivision{Complex: x.c}), x.e)
	}
	for _, x := range badSimplices() {
		want(t, "facet", all(subdivision.Facet(x.s, nil)), all([]int{}, x.e))
		want(t, "simplex", all(subdivision.Simplex(x.s)), all(api.Subdivision{}, x.e))
	}
}

// P29.2: Chromatic, Barycentric and Iterate.
func TestSubdivisionComplexes(t *testing.T) {
	c := complexOf(t, "01", "12")
	d, e := subdivision.Chromatic(c)
	want(t, "chromatic", sketchComplex(d.Complex, e), "01/2 0/21/1 0/21/2 1/12/4 1/42/3 1/42/4 ")
	want(t, "carrier", all(d.Vertices[4], d.Carriers[4], d.Vertices[3], d.Carriers[3]), "[{1 4} [{1 0} {2 0}] {1 2} [{0 0} {1 0}]]")
	b, e := subdivision.Barycentric(complexOf(t, "01"))
	want(t, "barycentric", sketchComplex(b.Complex, e), "01/2 0/11/2 ")
	b, e = subdivision.Barycentric(api.Complex{Facets: [][]api.Vertex{triangle}})
	want(t, "barycentric", all(len(b.Complex.Facets), len(b.Vertices), b.Carriers[6], e), all(6, 7, triangle, api.OK))
	b, e = subdivision.Barycentric(complexOf(t, "012345"))
	want(t, "barycentric", all(len(b.Complex.Facets), e), "[720 0]")
	want(t, "many", all(subdivision.Barycentric(complexOf(t, "01234567"))), all(api.Subdivision{}, api.ErrMany))
	two, e := subdivision.Iterate(complexOf(t, "01"), 2)
	want(t, "iterate", all(len(two.Complex.Facets), len(two.Vertices), e), "[9 10 0]")
	zero, e := subdivision.Iterate(c, 0)
	want(t, "iterate", all(sketchComplex(zero.Complex, e), zero.Vertices, zero.Carriers), "[01 12  [{0 0} {1 0} {2 0}] [[{0 0}] [{1 0}] [{2 0}]]]")
	_, e = subdivision.Iterate(api.Complex{Facets: [][]api.Vertex{triangle}}, 0)
	want(t, "iterate", e, api.OK)
	want(t, "iterate", all(subdivision.Iterate(api.Complex{Facets: [][]api.Vertex{triangle}}, 1)), all(api.Subdivision{}, api.ErrForm))
	want(t, "iterate", all(subdivision.Iterate(c, 7)), all(api.Subdivision{}, api.ErrRange))
	want(t, "iterate", all(subdivision.Iterate(complexOf(t, "0123"), 2)), all(api.Subdivision{}, api.ErrMany))
	want(t, "form", all(subdivision.Chromatic(api.Complex{Facets: [][]api.Vertex{corners(0, 1, 2, 3, 4, 5), {vertexB, vertexC}}})), all(api.Subdivision{}, api.ErrForm))
	want(t, "many", all(subdivision.Chromatic(complexOf(t, "012345"))), all(api.Subdivision{}, api.ErrMany))
	for _, x := range badComplexes() {
		want(t, "chromatic", all(subdivision.Chromatic(x.c)), all(api.Subdivision{}, x.e))
		want(t, "barycentric", all(subdivision.Barycentric(x.c)), all(api.Subdivision{}, x.e))
		want(t, "iterate", all(subdivision.Iterate(x.c, -1)), all(api.Subdivision{}, x.e))
	}
}

// P29.3: consequences.
func TestSubdivisionLaws(t *testing.T) {
	for _, text := range [][]string{{"012"}, {"01", "02", "12", "13"}, {"012", "123", "4"}} {
		c := complexOf(t, text...)
		chromatic, e := subdivision.Chromatic(c)
		good(t, "chromatic", e)
		barycentric, e := subdivision.Barycentric(c)
		good(t, "barycentric", e)
		twice, e := subdivision.Iterate(c, 2)
		good(t, "iterate", e)
		for _, d := range []api.Subdivision{chromatic, barycentric, twice} {
			want(t, "check", subdivision.Check(c, d), api.OK)
			a, _ := complex.Euler(c)
			want(t, "euler", all(complex.Euler(d.Complex)), all(a, api.OK))
			x, pure, _ := complex.Dimension(c)
			want(t, "dimension", all(complex.Dimension(d.Complex)), all(x, pure, api.OK))
			parts, _ := complex.Components(c)
			more, _ := complex.Components(d.Complex)
			want(t, "components", more[len(more)-1], parts[len(parts)-1])
		}
	}
	s := corners(0, 1, 2, 3)
	d, _ := subdivision.Simplex(s)
	base := api.Complex{Facets: [][]api.Vertex{s}}
	boundary, e := complex.Boundary(d.Complex)
	good(t, "pseudomanifold", e)
	faces, _ := complex.Simplices(d.Complex, 3)
	number := 0
	for _, f := range faces {
		if carrier, _ := subdivision.Carrier(base, d, f); len(carrier) < 4 {
			number++
			ok, _ := complex.Contains(boundary, f)
			want(t, "boundary", ok, true)
		}
	}
	want(t, "boundary", len(boundary.Facets), number)
	for _, f := range d.Complex.Facets {
		for i, v := range f {
			want(t, "own", v.Label>>i&1, 1)
			for _, w := range f {
				want(t, "comparable", v.Label|w.Label == v.Label || v.Label|w.Label == w.Label, true)
				want(t, "immediate", v.Label>>w.Color&1 == 0 || w.Label&^v.Label == 0, true)
			}
		}
	}
	face, _ := subdivision.Simplex(s[:3])
	var inside [][]api.Vertex
	for _, f := range d.Complex.Facets {
		if r, _ := simplex.Restrict(f, 7); len(r) == 3 {
			if carrier, _ := subdivision.Carrier(base, d, r); len(carrier) == 3 {
				inside = append(inside, r)
			}
		}
	}
	want(t, "face", sketchComplex(complex.Of(inside)), sketchComplex(face.Complex, api.OK))
}
