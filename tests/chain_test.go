package tests

import (
	"testing"

	"roundtable/api"
	"roundtable/chain"
	"roundtable/complex"
	"roundtable/matrix"
)

// chainOf makes a chain of simplices that are written as their colors.
func chainOf(l ...string) [][]api.Vertex {
	var a [][]api.Vertex
	for _, s := range l {
		a = append(a, letters(s))
	}
	return a
}

type badChain struct {
	a [][]api.Vertex
	e api.Errno
}

func badChains() []badChain {
	l := []badChain{{make([][]api.Vertex, 4097), api.ErrMany}, {chainOf("01", "1"), api.ErrShape}, {chainOf("01", "01"), api.ErrOrder}, {chainOf("12", "01", "1"), api.ErrOrder}}
	for _, x := range badSimplices() {
		l = append(l, badChain{[][]api.Vertex{corners(0), x.s}, x.e})
	}
	return l
}

func sketchedChain(a [][]api.Vertex, e api.Errno) string {
	return sketchComplex(api.Complex{Facets: a}, e)
}

// P30.1: Check, Sum, Boundary and Cycle.
func TestChainBoundaries(t *testing.T) {
	want(t, "check", chain.Check(chainOf("01", "02")), api.OK)
	want(t, "check", chain.Check(nil), api.OK)
	want(t, "boundary", sketchedChain(chain.Boundary(chainOf("012"))), "01 02 12 ")
	want(t, "boundary", sketchedChain(chain.Boundary(chainOf("01", "12"))), "0 2 ")
	want(t, "boundary", sketchedChain(chain.Boundary(chainOf("0", "2"))), "")
	want(t, "boundary", sketchedChain(chain.Boundary(nil)), "")
	want(t, "sum", sketchedChain(chain.Sum(chainOf("01", "12"), chainOf("12", "23"))), "01 23 ")
	want(t, "sum", sketchedChain(chain.Sum(chainOf("01"), nil)), "01 ")
	want(t, "sum", sketchedChain(chain.Sum(chainOf("01"), chainOf("2"))), "error 15")
	want(t, "cycle", all(chain.Cycle(chainOf("01", "02", "12"))), "[true 0]")
	want(t, "cycle", all(chain.Cycle(chainOf("01"))), "[false 0]")
	want(t, "cycle", all(chain.Cycle(chainOf("1"))), "[true 0]")
	var many, others [][]api.Vertex
	for i := range 3000 {
		many = append(many, []api.Vertex{{Label: i}, {Color: 1, Label: i}})
		others = append(others, []api.Vertex{{Label: i + 5000}, {Color: 1, Label: i}})
	}
	want(t, "many", sketchedChain(chain.Sum(many, others)), "error 05")
	want(t, "many", sketchedChain(chain.Boundary(many)), "error 05")
	want(t, "many", all(chain.Cycle(many)), "[false 0]")
	var points [][]api.Vertex
	for i := range 4096 {
		points = append(points, []api.Vertex{{Label: i}})
	}
	want(t, "many", chain.Check(points), api.OK)
	for _, x := range badChains() {
		want(t, "check", chain.Check(x.a), x.e)
		want(t, "sum", all(chain.Sum(chainOf("0"), x.a)), all([]int{}, x.e))
		want(t, "boundary", all(chain.Boundary(x.a)), all([]int{}, x.e))
		want(t, "cycle", all(chain.Cycle(x.a)), all(false, x.e))
	}
}

// P30.2: Matrix, Vector and Chain.
func TestChainMatrices(t *testing.T) {
	c := complexOf(t, "012", "23")
	want(t, "matrix", all(chain.Matrix(c, 1)), "[{4 [[0 1] [0 2] [1 2 3] [3]]} 0]")
	want(t, "matrix", all(chain.Matrix(c, 2)), "[{1 [[0] [0] [0] []]} 0]")
	want(t, "matrix", all(chain.Matrix(c, 0)), "[{4 []} 0]")
	want(t, "matrix", all(chain.Matrix(c, 3)), "[{0 [[]]} 0]")
	want(t, "matrix", all(chain.Matrix(c, 8)), "[{0 []} 2]")
	want(t, "matrix", all(chain.Matrix(c, -1)), "[{0 []} 2]")
	want(t, "matrix", all(chain.Matrix(wideComplex(600), 1)), "[{0 []} 17]")
	want(t, "vector", all(chain.Vector(c, chainOf("01", "23"))), "[[0 3] 0]")
	want(t, "vector", all(chain.Vector(c, nil)), "[[] 0]")
	want(t, "vector", all(chain.Vector(c, chainOf("13"))), "[[] 6]")
	want(t, "vector", all(chain.Vector(wideComplex(600), chainOf("13"))), "[[] 17]")
	want(t, "chain", sketchedChain(chain.Chain(c, 1, []int{0, 3})), "01 23 ")
	want(t, "chain", sketchedChain(chain.Chain(c, 1, nil)), "")
	want(t, "chain", sketchedChain(chain.Chain(c, 1, []int{0, 4})), "error 02")
	want(t, "chain", sketchedChain(chain.Chain(c, 1, []int{2, 1, 9})), "error 14")
	want(t, "chain", sketchedChain(chain.Chain(c, 1, []int{-1})), "error 02")
	want(t, "chain", sketchedChain(chain.Chain(c, 8, nil)), "error 02")
	want(t, "chain", sketchedChain(chain.Chain(wideComplex(600), 1, nil)), "error 17")
	for _, x := range badComplexes() {
		want(t, "matrix", all(chain.Matrix(x.c, -1)), all(api.Matrix{}, x.e))
		want(t, "vector", all(chain.Vector(x.c, chainOf("01", "1"))), all([]int{}, x.e))
		want(t, "chain", all(chain.Chain(x.c, -1, nil)), all([]int{}, x.e))
	}
	for _, x := range badChains() {
		want(t, "vector", all(chain.Vector(c, x.a)), all([]int{}, x.e))
	}
}

// P30.3: consequences.
func TestChainLaws(t *testing.T) {
	c := complexOf(t, "0123", "1234", "045")
	var random source
	for d := range 4 {
		l, _ := complex.Simplices(c, d+1)
		m, _ := chain.Matrix(c, d)
		if d > 0 {
			before, _ := chain.Matrix(c, d-1)
			product, e := matrix.Multiply(before, m)
			good(t, "product", e)
			for _, row := range product.Rows {
				want(t, "zero", len(row), 0)
			}
		}
		for range 50 {
			choose := func() [][]api.Vertex {
				var v []int
				for i := range l {
					if random.below(2) == 0 {
						v = append(v, i)
					}
				}
				a, _ := chain.Chain(c, d, v)
				want(t, "vector", all(chain.Vector(c, a)), all(v, api.OK))
				return a
			}
			a, b := choose(), choose()
			sum, _ := chain.Sum(a, b)
			want(t, "commutative", sketchedChain(chain.Sum(b, a)), sketchedChain(sum, api.OK))
			want(t, "nothing", sketchedChain(chain.Sum(a, a)), "")
			x, _ := chain.Boundary(a)
			y, _ := chain.Boundary(b)
			want(t, "boundary", sketchedChain(chain.Boundary(sum)), sketchedChain(chain.Sum(x, y)))
			want(t, "cycle", all(chain.Cycle(x)), "[true 0]")
			v, _ := chain.Vector(c, a)
			w, _ := chain.Vector(c, x)
			want(t, "applied", all(matrix.Apply(m, v)), all(w, api.OK))
		}
	}
}
