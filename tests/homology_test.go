package tests

import (
	"testing"

	"roundtable/api"
	"roundtable/chain"
	"roundtable/complex"
	"roundtable/homology"
	"roundtable/matrix"
)

func sketchCycles(l [][][]api.Vertex, e api.Errno) string {
	text := ""
	for _, a := range l {
		text += sketchChain(a) + "; "
	}
	return text + string(rune('0'+e))
}

// P31.1: Betti, Cycles, Independent and Connected.
func TestHomologyBetti(t *testing.T) {
	circle, disk, sphere := complexOf(t, "01", "02", "12"), complexOf(t, "012"), complexOf(t, "012", "013", "023", "123")
	want(t, "betti", all(homology.Betti(circle)), "[[1 1] 0]")
	want(t, "betti", all(homology.Betti(disk)), "[[1 0 0] 0]")
	want(t, "betti", all(homology.Betti(sphere)), "[[1 0 1] 0]")
	want(t, "betti", all(homology.Betti(complexOf(t, "01", "2", "34", "45", "35"))), "[[3 1] 0]")
	want(t, "betti", all(homology.Betti(api.Complex{})), "[[] 0]")
	want(t, "betti", all(homology.Betti(complexOf(t, "01234567"))), "[[1 0 0 0 0 0 0 0] 0]")
	want(t, "cycles", sketchCycles(homology.Cycles(circle, 1)), "01 02 12 ; 0")
	want(t, "cycles", sketchCycles(homology.Cycles(disk, 1)), "0")
	want(t, "cycles", sketchCycles(homology.Cycles(sphere, 2)), "012 013 023 123 ; 0")
	want(t, "cycles", sketchCycles(homology.Cycles(complexOf(t, "01", "2", "3"), 0)), "0 ; 2 ; 3 ; 0")
	// The edges are 01 02 04 12 13 23 34: without the leading columns 01 02 04 13 the kernel has rows for 12, 23 and 34, and 12 bounds with 01 and 02.
	want(t, "cycles", sketchCycles(homology.Cycles(complexOf(t, "012", "13", "23", "34", "04"), 1)), "01 02 13 23 ; 01 04 13 34 ; 0")
	want(t, "cycles", sketchCycles(homology.Cycles(circle, 7)), "0")
	want(t, "cycles", sketchCycles(homology.Cycles(circle, 8)), "2")
	want(t, "cycles", sketchCycles(homology.Cycles(circle, -1)), "2")
	ring := chainOf("01", "02", "12")
	want(t, "independent", all(homology.Independent(circle, 1, [][][]api.Vertex{ring})), "[true 0]")
	want(t, "independent", all(homology.Independent(circle, 1, [][][]api.Vertex{ring, ring})), "[false 0]")
	want(t, "independent", all(homology.Independent(disk, 1, [][][]api.Vertex{ring})), "[false 0]")
	want(t, "independent", all(homology.Independent(circle, 1, [][][]api.Vertex{nil})), "[false 0]")
	want(t, "independent", all(homology.Independent(circle, 1, nil)), "[true 0]")
	want(t, "independent", all(homology.Independent(circle, 0, [][][]api.Vertex{chainOf("0")})), "[true 0]")
	want(t, "independent", all(homology.Independent(circle, 0, [][][]api.Vertex{chainOf("0"), chainOf("1")})), "[false 0]")
	for _, x := range []struct {
		d int
		l [][][]api.Vertex
		e api.Errno
	}{
		{8, make([][][]api.Vertex, 1025), api.ErrRange}, {1, make([][][]api.Vertex, 1025), api.ErrMany}, {1, [][][]api.Vertex{ring, chainOf("34")}, api.ErrNone}, {1, [][][]api.Vertex{chainOf("1", "01")}, api.ErrShape}, {0, [][][]api.Vertex{chainOf("01")}, api.ErrShape},
		{1, [][][]api.Vertex{chainOf("01")}, api.ErrForm}, {1, [][][]api.Vertex{chainOf("0")}, api.ErrShape},
	} {
		want(t, "independent", all(homology.Independent(circle, x.d, x.l)), all(false, x.e))
	}
	for k, ok := range []bool{true, true, true, false, false} {
		want(t, "connected", all(homology.Connected(sphere, k-1)), all(ok, api.OK))
	}
	want(t, "connected", all(homology.Connected(disk, 7)), "[true 0]")
	want(t, "connected", all(homology.Connected(complexOf(t, "0", "1"), 0)), "[false 0]")
	want(t, "connected", all(homology.Connected(complexOf(t, "0", "1"), -1)), "[true 0]")
	want(t, "connected", all(homology.Connected(api.Complex{}, -1)), "[false 0]")
	want(t, "connected", all(homology.Connected(api.Complex{}, 8)), "[false 2]")
	want(t, "connected", all(homology.Connected(api.Complex{}, -2)), "[false 2]")
	for _, x := range append(badComplexes(), badComplex{wideComplex(600), api.ErrLimit}) {
		want(t, "betti", all(homology.Betti(x.c)), all([]int{}, x.e))
		want(t, "cycles", all(homology.Cycles(x.c, -1)), all([]int{}, x.e))
		want(t, "independent", all(homology.Independent(x.c, -1, nil)), all(false, x.e))
		want(t, "connected", all(homology.Connected(x.c, -2)), all(false, x.e))
		want(t, "bound", all(homology.Bound(x.c, chainOf("1", "01"))), all([]int{}, []int{}, false, x.e))
		want(t, "bounds", homology.Bounds(x.c, nil, nil), x.e)
		want(t, "refutes", homology.Refutes(x.c, nil, nil), x.e)
	}
}

// P31.2: Bound, Bounds and Refutes.
func TestHomologyBounds(t *testing.T) {
	circle, disk := complexOf(t, "01", "02", "12"), complexOf(t, "012")
	ring := chainOf("01", "02", "12")
	b, y, ok, e := homology.Bound(disk, ring)
	want(t, "bound", all(sketchChain(b), len(y), ok, e), "[012  0 true 0]")
	b, y, ok, e = homology.Bound(circle, ring)
	want(t, "bound", all(len(b), ok, e, homology.Refutes(circle, ring, y)), "[0 false 0 0]")
	want(t, "bound", all(homology.Bound(circle, nil)), "[[] [] true 0]")
	want(t, "bound", all(homology.Bound(circle, chainOf("01"))), "[[] [] false 3]")
	want(t, "bound", all(homology.Bound(circle, chainOf("03"))), "[[] [] false 6]")
	want(t, "bound", all(homology.Bound(circle, chainOf("1", "0"))), "[[] [] false 14]")
	full := complexOf(t, "01234567")
	want(t, "top", all(homology.Bound(full, full.Facets)), "[[] [] false 3]")
	want(t, "bounds", homology.Bounds(disk, ring, chainOf("012")), api.OK)
	want(t, "bounds", homology.Bounds(disk, ring, nil), api.ErrProof)
	want(t, "bounds", homology.Bounds(disk, nil, nil), api.OK)
	want(t, "bounds", homology.Bounds(disk, nil, chainOf("012")), api.ErrProof)
	want(t, "bounds", homology.Bounds(disk, ring, ring), api.ErrShape)
	want(t, "bounds", homology.Bounds(circle, ring, chainOf("012")), api.ErrNone)
	want(t, "bounds", homology.Bounds(circle, chainOf("34"), chainOf("1", "01")), api.ErrNone)
	want(t, "bounds", homology.Bounds(disk, chainOf("01"), chainOf("012")), api.ErrProof)
	want(t, "refutes", homology.Refutes(circle, ring, chainOf("12")), api.OK)
	want(t, "refutes", homology.Refutes(circle, ring, chainOf("01", "02")), api.ErrProof)
	want(t, "refutes", homology.Refutes(disk, ring, chainOf("12")), api.ErrProof)
	want(t, "refutes", homology.Refutes(circle, ring, chainOf("1")), api.ErrShape)
	want(t, "refutes", homology.Refutes(circle, ring, nil), api.ErrProof)
	want(t, "refutes", homology.Refutes(circle, nil, ring), api.ErrProof)
	want(t, "refutes", homology.Refutes(circle, ring, chainOf("3")), api.ErrNone)
}

// P31.3: consequences.
func TestHomologyLaws(t *testing.T) {
	torus := [][]api.Vertex{}
	for i := range 3 {
		for k := range 3 {
			v := func(a, b int) api.Vertex { return api.Vertex{Color: (i + a) % 3, Label: (k + b) % 3} }
			for _, s := range [][]api.Vertex{{v(0, 0), v(1, 0), v(1, 1)}, {v(0, 0), v(0, 1), v(1, 1)}} {
				torus = append(torus, s)
			}
		}
	}
	for i, s := range torus {
		sorted, _ := complex.Of([][]api.Vertex{{s[0]}, {s[1]}, {s[2]}})
		var all []api.Vertex
		for _, f := range sorted.Facets {
			all = append(all, f[0])
		}
		torus[i] = all
	}
	x, e := complex.Of(torus)
	good(t, "torus", e)
	want(t, "torus", all(homology.Betti(x)), "[[1 2 1] 0]")
	for _, c := range []api.Complex{x, complexOf(t, "012", "123", "34", "45", "35", "6"), complexOf(t, "0123", "45", "46", "56", "457")} {
		l, _ := homology.Betti(c)
		sum, sign := 0, 1
		for d, b := range l {
			sum, sign = sum+sign*b, -sign
			cycles, _ := homology.Cycles(c, d)
			want(t, "number", len(cycles), b)
			want(t, "independent", all(homology.Independent(c, d, cycles)), "[true 0]")
			boundary, _ := chain.Matrix(c, d)
			kernel, _ := matrix.Kernel(boundary)
			var basis [][][]api.Vertex
			for _, row := range kernel.Rows {
				a, _ := chain.Chain(c, d, row)
				if ok, _ := homology.Independent(c, d, append(basis[:len(basis):len(basis)], a)); ok {
					basis = append(basis, a)
				}
			}
			want(t, "basis", sketchCycles(cycles, api.OK), sketchCycles(basis, api.OK))
			m, _ := chain.Matrix(c, d+1)
			for k := range m.Cols {
				a, _ := chain.Chain(c, d+1, []int{k})
				edge, _ := chain.Boundary(a)
				b, _, ok, _ := homology.Bound(c, edge)
				want(t, "bound", ok, true)
				want(t, "bounds", homology.Bounds(c, edge, b), api.OK)
				if len(cycles) > 0 {
					other, _ := chain.Sum(edge, cycles[0])
					_, y, ok, _ := homology.Bound(c, other)
					want(t, "refuted", ok, false)
					want(t, "refutes", homology.Refutes(c, other, y), api.OK)
					want(t, "dependent", all(homology.Independent(c, d, append(cycles[:1:1], other))), "[false 0]")
				}
			}
		}
		want(t, "euler", all(complex.Euler(c)), all(sum, api.OK))
		parts, _ := complex.Components(c)
		most := 0
		for _, p := range parts {
			most = max(most, p+1)
		}
		want(t, "components", l[0], most)
	}
	cone, _ := complex.Join(complexOf(t, "01", "2", "34"), complexOf(t, "7"))
	want(t, "cone", all(homology.Connected(cone, 7)), "[true 0]")
}
