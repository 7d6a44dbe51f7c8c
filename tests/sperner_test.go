package tests

import (
	"testing"

	"roundtable/api"
	"roundtable/sperner"
	"roundtable/subdivision"
)

// edgeLabels are the subdivision of the examples of layer 34, and its labels.
func edgeLabels(t *testing.T) (api.Subdivision, api.Labels) {
	t.Helper()
	d, e := subdivision.Simplex(letters("01"))
	good(t, "simplex", e)
	l, e := sperner.Sperner(d, letters("01"))
	good(t, "labels", e)
	return d, l
}

type badLabels struct {
	l api.Labels
	e api.Errno
}

func badLabelings() []badLabels {
	return []badLabels{
		{api.Labels{Vertices: make([]api.Vertex, 4097)}, api.ErrMany}, {api.Labels{Vertices: corners(0, 9)}, api.ErrShape}, {api.Labels{Vertices: corners(0, 8), Allowed: []int{1, 1}}, api.ErrRange}, {api.Labels{Vertices: corners(1, 0), Allowed: []int{1, 0}}, api.ErrOrder},
		{api.Labels{Vertices: corners(0, 1), Allowed: []int{0, 1}}, api.ErrRange}, {api.Labels{Vertices: corners(0, 1), Allowed: []int{1, 256}}, api.ErrRange},
	}
}

func single(l api.Labels, labels ...int) api.Labels {
	x := api.Labels{Vertices: l.Vertices}
	for _, k := range labels {
		x.Allowed = append(x.Allowed, 1<<k)
	}
	return x
}

// P34.1: Check, Rainbow, Sperner and Suits.
func TestSpernerLabels(t *testing.T) {
	d, l := edgeLabels(t)
	want(t, "labels", l, "{[{0 1} {0 3} {1 2} {1 3}] [1 3 2 3]}")
	want(t, "check", sperner.Check(l), api.OK)
	want(t, "rainbow", sketchedChain(sperner.Rainbow(d.Complex, single(l, 0, 0, 1, 1))), "0/11/3 0/31/2 0/31/3 ")
	want(t, "rainbow", sketchedChain(sperner.Rainbow(d.Complex, single(l, 0, 0, 1, 0))), "0/31/2 ")
	want(t, "rainbow", sketchedChain(sperner.Rainbow(d.Complex, l)), "error 03")
	want(t, "rainbow", sketchedChain(sperner.Rainbow(complexOf(t, "01"), l)), "error 06")
	want(t, "rainbow", sketchedChain(sperner.Rainbow(complexOf(t, "0", "12"), api.Labels{Vertices: corners(0, 1, 2), Allowed: []int{1, 4, 2}})), "0 ")
	want(t, "suits", all(sperner.Suits(l, single(l, 0, 1, 1, 0))), "[true 0]")
	want(t, "suits", all(sperner.Suits(l, single(l, 1, 1, 1, 0))), "[false 0]")
	want(t, "suits", all(sperner.Suits(l, api.Labels{})), "[false 0]")
	want(t, "suits", all(sperner.Suits(l, l)), "[false 3]")
	want(t, "sperner", all(sperner.Sperner(d, nil)), all(api.Labels{}, api.ErrEmpty))
	want(t, "sperner", all(sperner.Sperner(d, letters("02"))), all(api.Labels{}, api.ErrNone))
	d.Carriers[0] = nil
	want(t, "sperner", all(sperner.Sperner(d, letters("01"))), all(api.Labels{}, api.ErrEmpty))
	for _, x := range badLabelings() {
		want(t, "check", sperner.Check(x.l), x.e)
		want(t, "rainbow", all(sperner.Rainbow(complexOf(t, "7"), x.l)), all([]int{}, x.e))
		want(t, "suits", all(sperner.Suits(l, x.l)), all(false, x.e))
		want(t, "suits", all(sperner.Suits(x.l, l)), all(false, x.e))
		want(t, "certificate", all(sperner.Certificate(complexOf(t, "7"), x.l, -1)), all([]int{}, false, x.e))
		want(t, "verify", sperner.Verify(complexOf(t, "7"), x.l, nil), x.e)
	}
	for _, x := range badComplexes() {
		want(t, "rainbow", all(sperner.Rainbow(x.c, badLabelings()[0].l)), all([]int{}, x.e))
		want(t, "certificate", all(sperner.Certificate(x.c, badLabelings()[0].l, -1)), all([]int{}, false, x.e))
		want(t, "verify", sperner.Verify(x.c, badLabelings()[0].l, nil), x.e)
	}
}

// P34.2: Certificate and Verify.
func TestSpernerCertificates(t *testing.T) {
	d, l := edgeLabels(t)
	levels, ok, e := sperner.Certificate(d.Complex, l, 1)
	want(t, "certificate", all(sketchChain(levels[0]), sketchChain(levels[1]), ok, e), "[0/1  0/11/3 0/31/2 0/31/3  true 0]")
	want(t, "verify", sperner.Verify(d.Complex, l, levels), api.OK)
	wider := api.Labels{Vertices: l.Vertices, Allowed: []int{1, 3, 2, 7}}
	want(t, "none", all(sperner.Certificate(d.Complex, wider, 1)), "[[] false 0]")
	whole := complexOf(t, "01234567")
	own := api.Labels{Vertices: corners(0, 1, 2, 3, 4, 5, 6, 7), Allowed: []int{1, 2, 4, 8, 16, 32, 64, 128}}
	chain, ok, e := sperner.Certificate(whole, own, 7)
	want(t, "whole", all(len(chain), sketchChain(chain[7]), sperner.Verify(whole, own, chain), ok, e), "[8 01234567  0 true 0]")
	want(t, "range", all(sperner.Certificate(d.Complex, l, 8)), "[[] false 2]")
	want(t, "range", all(sperner.Certificate(d.Complex, l, -1)), "[[] false 2]")
	want(t, "cover", all(sperner.Certificate(complexOf(t, "7"), l, -1)), "[[] false 6]")
	var points api.Complex
	var many api.Labels
	for i := range 4096 {
		points.Facets = append(points.Facets, []api.Vertex{{Label: i}})
		many.Vertices = append(many.Vertices, api.Vertex{Label: i})
		many.Allowed = append(many.Allowed, 1)
	}
	want(t, "limit", all(sperner.Certificate(points, many, 1)), "[[] false 17]")
	_, ok, e = sperner.Certificate(points, many, 0)
	want(t, "no limit", all(ok, e), "[true 0]")
	for i := range many.Allowed {
		many.Allowed[i] = 3
	}
	want(t, "equations", all(sperner.Certificate(points, many, 1)), "[[] false 17]")
	var edges api.Complex
	var pairs api.Labels
	for i := range 128 {
		pairs.Vertices = append(pairs.Vertices, api.Vertex{Color: i / 64, Label: i % 64})
		pairs.Allowed = append(pairs.Allowed, 3)
		for k := 0; i < 64 && k < 64; k++ {
			edges.Facets = append(edges.Facets, []api.Vertex{{Label: i}, {Color: 1, Label: k}})
		}
	}
	want(t, "no unknowns of level 0", all(sperner.Certificate(edges, pairs, 1)), "[[] false 0]")
	pairs.Allowed[0] = 1
	want(t, "unknowns", all(sperner.Certificate(edges, pairs, 1)), "[[] false 17]")
	for i, x := range []struct {
		levels [][][]api.Vertex
		e      api.Errno
	}{
		{nil, api.ErrShape}, {make([][][]api.Vertex, 9), api.ErrShape}, {[][][]api.Vertex{{nil}}, api.ErrEmpty}, {[][][]api.Vertex{levels[1]}, api.ErrShape}, {[][][]api.Vertex{{letters("7")}}, api.ErrNone}, {[][][]api.Vertex{{d.Vertices[1:2], d.Vertices[0:1]}}, api.ErrOrder},
		{[][][]api.Vertex{levels[0], levels[1][:2]}, api.ErrProof}, {[][][]api.Vertex{{d.Vertices[0:1], d.Vertices[0:1]}}, api.ErrOrder}, {[][][]api.Vertex{nil, levels[1]}, api.ErrProof}, {levels[:1], api.OK},
		{[][][]api.Vertex{{d.Vertices[2:3]}}, api.ErrProof},
	} {
		want(t, string(rune('a'+i)), sperner.Verify(d.Complex, l, x.levels), x.e)
	}
	want(t, "cover", sperner.Verify(complexOf(t, "7"), l, nil), api.ErrNone)
	want(t, "euler", sperner.Verify(wideComplex(600), l, nil), api.ErrLimit)
}

// P34.3: consequences.
func TestSpernerLaws(t *testing.T) {
	var random source
	for _, x := range []struct {
		base string
		k    int
	}{{"01", 1}, {"01", 3}, {"012", 1}, {"012", 2}, {"0123", 1}} {
		base := letters(x.base)
		d, e := subdivision.Iterate(api.Complex{Facets: [][]api.Vertex{base}}, x.k)
		good(t, "iterate", e)
		l, e := sperner.Sperner(d, base)
		good(t, "labels", e)
		levels, ok, e := sperner.Certificate(d.Complex, l, len(base)-1)
		want(t, "found", all(ok, e), "[true 0]")
		want(t, "verified", sperner.Verify(d.Complex, l, levels), api.OK)
		last := levels[len(base)-1]
		want(t, "all facets", len(last), len(d.Complex.Facets))
		for range 20 {
			var labels []int
			for _, mask := range l.Allowed {
				k := random.below(len(base))
				for mask>>k&1 == 0 {
					k = random.below(len(base))
				}
				labels = append(labels, k)
			}
			some := single(l, labels...)
			want(t, "suits", all(sperner.Suits(l, some)), "[true 0]")
			rainbow, _ := sperner.Rainbow(api.Complex{Facets: last}, some)
			want(t, "odd", len(rainbow)%2, 1)
		}
	}
}
