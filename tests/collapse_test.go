package tests

import (
	"testing"

	"roundtable/api"
	"roundtable/collapse"
	"roundtable/complex"
)

func sketchCollapses(l []api.Collapse, e api.Errno) string {
	text := ""
	for _, x := range l {
		text += sketchChain([][]api.Vertex{x.Face, x.Coface}) + "; "
	}
	return text + sketchComplex(api.Complex{}, e)
}

// P32.1: Free, Step and Reduce.
func TestCollapseSteps(t *testing.T) {
	c := complexOf(t, "012", "23")
	want(t, "free", sketchCollapses(collapse.Free(c)), "01 012 ; 02 012 ; 12 012 ; 3 23 ; ")
	want(t, "free", sketchCollapses(collapse.Free(complexOf(t, "01", "02", "12"))), "")
	want(t, "free", sketchCollapses(collapse.Free(complexOf(t, "0", "12"))), "1 12 ; 2 12 ; ")
	step := func(c api.Complex, face, coface string) string {
		return sketchComplex(collapse.Step(c, api.Collapse{Face: letters(face), Coface: letters(coface)}))
	}
	want(t, "step", step(c, "01", "012"), "02 12 23 ")
	want(t, "step", step(c, "3", "23"), "012 ")
	want(t, "step", step(complexOf(t, "01"), "0", "01"), "1 ")
	for _, x := range [][2]string{{"2", "23"}, {"0", "012"}, {"3", "012"}, {"02", "0123"}, {"1", "12"}, {"01", "01"}, {"13", "012"}} {
		want(t, "step "+x[0], step(c, x[0], x[1]), "error 06")
	}
	left, l, e := collapse.Reduce(c)
	want(t, "reduce", sketchComplex(left, e), "3 ")
	want(t, "reduce", sketchCollapses(l, e), "01 012 ; 0 02 ; 1 12 ; 2 23 ; ")
	left, l, e = collapse.Reduce(complexOf(t, "01", "02", "12", "23"))
	want(t, "reduce", sketchComplex(left, e)+sketchCollapses(l, e), "01 02 12 3 23 ; ")
	want(t, "limit", all(collapse.Reduce(wideComplex(17))), all(api.Complex{}, []int{}, api.ErrLimit))
	_, l, e = collapse.Reduce(wideComplex(16))
	want(t, "no limit", all(len(l), e), "[2032 0]")
	full := wideComplex(4096)
	want(t, "many", sketchComplex(collapse.Step(full, api.Collapse{Face: full.Facets[0][:7], Coface: full.Facets[0]})), "error 05")
	for _, x := range badComplexes() {
		want(t, "free", all(collapse.Free(x.c)), all([]int{}, x.e))
		want(t, "step", all(collapse.Step(x.c, api.Collapse{})), all(api.Complex{}, x.e))
		want(t, "reduce", all(collapse.Reduce(x.c)), all(api.Complex{}, []int{}, x.e))
		want(t, "verify", collapse.Verify(x.c, nil, api.Complex{Facets: [][]api.Vertex{nil}}), x.e)
		want(t, "verify", collapse.Verify(c, nil, x.c), x.e)
		want(t, "collapsible", all(collapse.Collapsible(x.c)), all(0, []int{}, x.e))
	}
	for _, x := range badSimplices() {
		want(t, "step", all(collapse.Step(c, api.Collapse{Face: x.s})), all(api.Complex{}, x.e))
		want(t, "step", all(collapse.Step(c, api.Collapse{Face: letters("01"), Coface: x.s})), all(api.Complex{}, x.e))
		want(t, "verify", collapse.Verify(c, []api.Collapse{{Face: letters("01"), Coface: x.s}}, c), api.ErrProof)
	}
}

// P32.2: Verify and Collapsible.
func TestCollapseVerdicts(t *testing.T) {
	c := complexOf(t, "012", "23")
	left, l, _ := collapse.Reduce(c)
	want(t, "verify", collapse.Verify(c, l, left), api.OK)
	want(t, "verify", collapse.Verify(c, nil, c), api.OK)
	want(t, "verify", collapse.Verify(c, l, c), api.ErrProof)
	want(t, "verify", collapse.Verify(c, []api.Collapse{l[1], l[0], l[2], l[3]}, left), api.ErrProof)
	want(t, "verify", collapse.Verify(c, make([]api.Collapse, 4097), left), api.ErrMany)
	verdict, list, e := collapse.Collapsible(c)
	want(t, "yes", all(verdict, len(list), e), "[1 4 0]")
	want(t, "one", all(collapse.Collapsible(complexOf(t, "0"))), "[1 [] 0]")
	want(t, "circle", all(collapse.Collapsible(complexOf(t, "01", "02", "12"))), "[2 [] 0]")
	want(t, "two", all(collapse.Collapsible(complexOf(t, "0", "12"))), "[2 [] 0]")
	want(t, "empty", all(collapse.Collapsible(api.Complex{})), "[2 [] 0]")
	// A circle and a sphere at a vertex have the characteristic 1, but do not collapse.
	want(t, "unknown", all(collapse.Collapsible(complexOf(t, "012", "013", "023", "123", "34", "45", "35"))), "[0 [] 0]")
	want(t, "limit", all(collapse.Collapsible(wideComplex(17))), "[0 [] 17]")
}

// P32.3: consequences.
func TestCollapseLaws(t *testing.T) {
	for n := 1; n <= 8; n++ {
		verdict, l, _ := collapse.Collapsible(complexOf(t, "01234567"[:n]))
		want(t, "simplex", all(verdict, len(l)), all(1, 1<<(n-1)-1))
	}
	for _, text := range [][]string{{"012", "123", "34", "45"}, {"01", "12", "13"}, {"01", "12", "02", "23"}, {"0123", "345", "5"}} {
		c := complexOf(t, text...)
		left, l, _ := collapse.Reduce(c)
		want(t, "none left", sketchCollapses(collapse.Free(left)), "")
		want(t, "accepted", collapse.Verify(c, l, left), api.OK)
		euler, _ := complex.Euler(c)
		x := c
		for i, step := range l {
			want(t, "without", collapse.Verify(c, append(l[:i:i], l[i+1:]...), left), api.ErrProof)
			var e api.Errno
			x, e = collapse.Step(x, step)
			good(t, "step", e)
			want(t, "euler", all(complex.Euler(x)), all(euler, api.OK))
		}
		want(t, "same", sketchComplex(x, api.OK), sketchComplex(left, api.OK))
		cone, _ := complex.Join(c, complexOf(t, "7"))
		verdict, _, _ := collapse.Collapsible(cone)
		want(t, "cone", verdict, api.VerdictYes)
	}
}
