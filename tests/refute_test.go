package tests

import (
	"testing"

	"roundtable/api"
	"roundtable/clauses"
	"roundtable/refute"
)

func square() api.Clauses {
	return clausesOf(2, []int{1, 2}, []int{1, -2}, []int{-1, 2}, []int{-1, -2})
}

// P42.1: Implied, Verify and Empty.
func TestRefuteVerify(t *testing.T) {
	c := square()
	want(t, "implied", all(refute.Implied(c, []int{1})), "[true 0]")
	want(t, "implied", all(refute.Implied(c, nil)), "[false 0]")
	want(t, "implied", all(refute.Implied(c, []int{3})), "[false 2]")
	want(t, "implied", all(refute.Implied(c, []int{2, 1})), "[false 14]")
	want(t, "implied", all(refute.Implied(exampleClauses(), []int{-1, -2})), "[true 0]")
	want(t, "verify", all(refute.Verify(c, [][]int{{1}, {}})), "[0 0]")
	want(t, "verify", all(refute.Verify(c, [][]int{{1, 2}, {2}, {1}, {}})), "[0 0]")
	want(t, "verify", all(refute.Verify(c, [][]int{{}})), "[0 18]")
	want(t, "verify", all(refute.Verify(c, [][]int{{1}})), "[1 18]")
	want(t, "verify", all(refute.Verify(c, nil)), "[0 18]")
	want(t, "verify", all(refute.Verify(c, [][]int{{1}, {}, {1, 2}})), "[3 18]")
	want(t, "verify", all(refute.Verify(c, [][]int{{1}, {2, 1}, {3}})), "[1 14]")
	want(t, "verify", all(refute.Verify(c, [][]int{{}, {3}})), "[1 2]")
	want(t, "verify", all(refute.Verify(c, make([][]int, 32769))), "[0 5]")
	want(t, "verify", all(refute.Verify(clausesOf(1, []int{1}, []int{-1}), make([][]int, 32768))), "[0 0]")
	want(t, "verify", all(refute.Verify(clausesOf(2, []int{1, 2}, []int{1, -2}, []int{-1, 2}), [][]int{{1}, {2}, {}})), "[2 18]")
	want(t, "empty", all(refute.Empty(c)), "[false 0]")
	want(t, "empty", all(refute.Empty(clausesOf(2, []int{1}, []int{-1, 2}, []int{-2}))), "[true 0]")
	want(t, "empty", all(refute.Empty(clausesOf(0, nil))), "[true 0]")
	for _, x := range badClauseLists() {
		want(t, "implied", all(refute.Implied(x.c, []int{0})), all(false, x.e))
		want(t, "verify", all(refute.Verify(x.c, [][]int{{1}, {0}})), all(0, x.e))
		want(t, "empty", all(refute.Empty(x.c)), all(false, x.e))
		want(t, "trim", all(refute.Trim(x.c, nil)), all([]int{}, x.e))
		want(t, "core", all(refute.Core(x.c, nil)), all([]int{}, x.e))
	}
}

// P42.2: Trim and Core.
func TestRefuteTrim(t *testing.T) {
	c := square()
	long := [][]int{{1, 2}, {2}, {1}, {}}
	want(t, "trim", all(refute.Trim(c, long)), "[[[2] []] 0]")
	want(t, "core", all(refute.Core(c, long)), "[[0 1 2 3] 0]")
	want(t, "core", all(refute.Core(clausesOf(2, []int{1}, []int{1, 2}, []int{-1}, []int{-1, 2}), [][]int{{}})), "[[0 2] 0]")
	want(t, "core", all(refute.Core(clausesOf(2, []int{1}, []int{1}, []int{-1}), [][]int{{}})), "[[0 2] 0]")
	want(t, "trim", all(refute.Trim(c, [][]int{{1}})), "[[] 18]")
	want(t, "core", all(refute.Core(c, [][]int{{2, 1}})), "[[] 14]")
}

// fullTree refutes clauses without a model variable by variable.
func fullTree(vars int) (api.Clauses, [][]int) {
	c := api.Clauses{Vars: vars}
	var proof [][]int
	for k := vars; k >= 0; k-- {
		for bits := range 1 << k {
			var clause []int
			for v := 1; v <= k; v++ {
				clause = append(clause, v-2*v*(bits>>(v-1)&1))
			}
			if k == vars {
				c.List = append(c.List, clause)
			} else {
				proof = append(proof, clause)
			}
		}
	}
	return c, proof
}

// P42.3: consequences.
func TestRefuteLaws(t *testing.T) {
	for vars := range 6 {
		c, proof := fullTree(vars)
		if vars == 0 {
			proof = [][]int{{}}
		}
		want(t, "tree", all(refute.Verify(c, proof)), "[0 0]")
		trimmed, e := refute.Trim(c, proof)
		good(t, "trim", e)
		want(t, "trimmed", all(refute.Verify(c, trimmed)), "[0 0]")
		for i := range len(trimmed) - 1 {
			_, e := refute.Verify(c, append(trimmed[:i:i], trimmed[i+1:]...))
			want(t, "needed", e, api.ErrProof)
		}
		core, _ := refute.Core(c, trimmed)
		some := api.Clauses{Vars: vars}
		for _, i := range core {
			some.List = append(some.List, c.List[i])
		}
		want(t, "core", all(refute.Verify(some, trimmed)), "[0 0]")
	}
	var random source
	for range 300 {
		c := randomClauses(&random, 4, 7)
		l := models(c)
		ok, _ := refute.Implied(c, []int{1, -3})
		_, _, conflict, _ := clauses.Propagate(c, []int{-1, 3})
		want(t, "propagated", ok, conflict >= 0)
		for _, m := range l {
			_, is, _ := clauses.Eval(clausesOf(4, []int{1, -3}), m)
			want(t, "implied", !ok || is, true)
		}
		if empty, _ := refute.Empty(c); empty {
			want(t, "no model", len(l), 0)
		}
	}
}
