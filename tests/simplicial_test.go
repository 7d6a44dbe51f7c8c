package tests

import (
	"math"
	"testing"

	"roundtable/api"
	"roundtable/chain"
	"roundtable/complex"
	"roundtable/matrix"
	"roundtable/simplicial"
)

// foldMap maps the colors 0, 1 and 2 to 0, 1 and 0.
func foldMap() api.Map { return api.Map{From: corners(0, 1, 2), To: corners(0, 1, 0)} }

type badMap struct {
	m api.Map
	e api.Errno
}

func badMaps() []badMap {
	return []badMap{
		{api.Map{From: make([]api.Vertex, 4097)}, api.ErrMany}, {api.Map{From: corners(0, 9)}, api.ErrShape}, {api.Map{From: corners(0, 8), To: corners(0, 0)}, api.ErrRange}, {api.Map{From: corners(0, 1), To: corners(0, -1)}, api.ErrRange},
		{api.Map{From: corners(1, 1), To: corners(0, 0)}, api.ErrOrder}, {api.Map{From: []api.Vertex{{Label: math.MaxInt}}, To: corners(0)}, api.ErrRange}, {api.Map{From: corners(1, 0, 9), To: corners(0, 0, 0)}, api.ErrOrder},
	}
}

// P33.1: Check, At, Apply and Image.
func TestSimplicialImages(t *testing.T) {
	m := foldMap()
	want(t, "check", simplicial.Check(m), api.OK)
	want(t, "at", all(simplicial.At(m, api.Vertex{Color: 2})), "[{0 0} 0]")
	want(t, "at", all(simplicial.At(m, api.Vertex{Color: 3})), "[{0 0} 6]")
	want(t, "apply", all(simplicial.Apply(m, letters("012"))), all(letters("01"), api.OK))
	want(t, "apply", all(simplicial.Apply(m, letters("02"))), all(letters("0"), api.OK))
	want(t, "apply", all(simplicial.Apply(m, letters("03"))), "[[] 6]")
	want(t, "image", sketchComplex(simplicial.Image(m, complexOf(t, "02", "12"))), "01 ")
	want(t, "image", sketchComplex(simplicial.Image(m, complexOf(t, "02", "13"))), "error 06")
	for _, x := range badMaps() {
		want(t, "check", simplicial.Check(x.m), x.e)
		want(t, "at", all(simplicial.At(x.m, api.Vertex{})), all(api.Vertex{}, x.e))
		want(t, "apply", all(simplicial.Apply(x.m, nil)), all([]int{}, x.e))
		want(t, "image", all(simplicial.Image(x.m, api.Complex{})), all(api.Complex{}, x.e))
	}
	for _, x := range badSimplices() {
		want(t, "apply", all(simplicial.Apply(m, x.s)), all([]int{}, x.e))
	}
	for _, x := range badComplexes() {
		want(t, "image", all(simplicial.Image(m, x.c)), all(api.Complex{}, x.e))
	}
}

// P33.2: Simplicial, Chromatic, Compose and Induced.
func TestSimplicialMaps(t *testing.T) {
	m := foldMap()
	circle, edge := complexOf(t, "01", "02", "12"), complexOf(t, "01")
	want(t, "simplicial", all(simplicial.Simplicial(m, circle, edge)), "[true 0]")
	want(t, "simplicial", all(simplicial.Simplicial(m, circle, complexOf(t, "0", "1"))), "[false 0]")
	want(t, "simplicial", all(simplicial.Simplicial(m, complexOf(t, "03"), edge)), "[false 6]")
	want(t, "chromatic", all(simplicial.Chromatic(m)), "[false 0]")
	want(t, "chromatic", all(simplicial.Chromatic(api.Map{From: []api.Vertex{{Color: 1}}, To: []api.Vertex{{Color: 1, Label: 3}}})), "[true 0]")
	swap := api.Map{From: corners(0, 1), To: corners(1, 0)}
	want(t, "compose", all(simplicial.Compose(m, swap)), all(api.Map{From: corners(0, 1, 2), To: corners(1, 0, 1)}, api.OK))
	want(t, "compose", all(simplicial.Compose(m, api.Map{From: corners(0), To: corners(1)})), all(api.Map{}, api.ErrNone))
	want(t, "induced", all(simplicial.Induced(m, circle, edge, 1)), "[{3 [[0 2]]} 0]")
	want(t, "induced", all(simplicial.Induced(m, circle, edge, 0)), "[{3 [[0 2] [1]]} 0]")
	want(t, "induced", all(simplicial.Induced(m, circle, edge, 2)), "[{0 []} 0]")
	want(t, "induced", all(simplicial.Induced(m, circle, complexOf(t, "0"), 1)), all(api.Matrix{}, api.ErrMismatch))
	for _, d := range []int{-1, 8, math.MaxInt, math.MinInt} {
		want(t, "induced", all(simplicial.Induced(m, circle, edge, d)), all(api.Matrix{}, api.ErrRange))
	}
	want(t, "induced", all(simplicial.Induced(m, complexOf(t, "03"), edge, 9)), all(api.Matrix{}, api.ErrNone))
	wide := wideComplex(600)
	v, _ := complex.Vertices(wide)
	want(t, "limit", all(simplicial.Induced(api.Map{From: v[:4096], To: v[:4096]}, api.Complex{}, wide, 1)), all(api.Matrix{}, api.ErrLimit))
	for _, x := range badMaps() {
		want(t, "simplicial", all(simplicial.Simplicial(x.m, badComplexes()[0].c, edge)), all(false, x.e))
		want(t, "chromatic", all(simplicial.Chromatic(x.m)), all(false, x.e))
		want(t, "compose", all(simplicial.Compose(m, x.m)), all(api.Map{}, x.e))
		want(t, "compose", all(simplicial.Compose(x.m, m)), all(api.Map{}, x.e))
		want(t, "induced", all(simplicial.Induced(x.m, circle, edge, 9)), all(api.Matrix{}, x.e))
	}
	for _, x := range badComplexes() {
		want(t, "simplicial", all(simplicial.Simplicial(m, x.c, edge)), all(false, x.e))
		want(t, "simplicial", all(simplicial.Simplicial(m, edge, x.c)), all(false, x.e))
	}
}

// P33.3: consequences.
func TestSimplicialLaws(t *testing.T) {
	var random source
	c := complexOf(t, "0123", "0145", "235")
	for range 60 {
		make2 := func() api.Map {
			m := api.Map{From: corners(0, 1, 2, 3, 4, 5)}
			for range 6 {
				m.To = append(m.To, api.Vertex{Color: random.below(6)})
			}
			return m
		}
		a, b := make2(), make2()
		ab, _ := simplicial.Compose(a, b)
		x, _ := simplicial.Image(a, c)
		y, _ := simplicial.Image(b, x)
		want(t, "image", sketchComplex(simplicial.Image(ab, c)), sketchComplex(y, api.OK))
		want(t, "simplicial", all(simplicial.Simplicial(a, c, x)), "[true 0]")
		for d := range 3 {
			ma, _ := simplicial.Induced(a, c, x, d)
			mb, _ := simplicial.Induced(b, x, y, d)
			mab, _ := simplicial.Induced(ab, c, y, d)
			want(t, "induced", all(matrix.Multiply(mb, ma)), all(mab, api.OK))
			if d > 0 {
				// Boundaries commute with maps.
				before, _ := simplicial.Induced(a, c, x, d-1)
				dc, _ := chain.Matrix(c, d)
				dx, _ := chain.Matrix(x, d)
				l, _ := matrix.Multiply(before, dc)
				want(t, "boundary", all(matrix.Multiply(dx, ma)), all(l, api.OK))
			}
		}
	}
}
