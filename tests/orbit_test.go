package tests

import (
	"testing"

	"roundtable/api"
	"roundtable/execution"
	"roundtable/orbit"
	"roundtable/permutation"
	"roundtable/symmetry"
)

// P24.1: Execution, Executions and Views.
func TestOrbitImages(t *testing.T) {
	s := lossySystem(t)
	swap := []int{1, 0}
	want(t, "executions", all(orbit.Executions(s, swap)), "[[1 0 2 7 6 8 4 3 5 10 9 11] 0]")
	want(t, "execution", all(orbit.Execution(s, swap, 5)), "[8 0]")
	want(t, "execution", all(orbit.Execution(s, swap, 12)), "[0 6]")
	l, e := orbit.Views(s, swap)
	want(t, "views", all(l[:2], len(l), e), "[[1 0] 16 0]")
	x := exampleSystem(t)
	want(t, "gap", all(orbit.Execution(x, swap, 0)), "[0 20]")
	want(t, "gap", all(orbit.Execution(x, swap, 9)), "[0 6]")
	want(t, "one", all(orbit.Execution(x, swap, 1)), "[1 0]")
	want(t, "gap", all(orbit.Executions(x, swap)), "[[] 20]")
	want(t, "gap", all(orbit.Views(x, swap)), "[[] 20]")
	want(t, "identity", all(orbit.Executions(x, []int{0, 1})), "[[0 1 2 3] 0]")
	want(t, "mismatch", all(orbit.Execution(s, []int{0}, -1)), "[0 22]")
	want(t, "twice", all(orbit.Executions(s, []int{1, 1})), "[[] 7]")
	want(t, "range", all(orbit.Views(s, nil)), "[[] 2]")
	for _, y := range badSystems(t) {
		want(t, "execution", all(orbit.Execution(y.s, nil, 0)), all(0, y.e))
		want(t, "executions", all(orbit.Executions(y.s, nil)), all([]int{}, y.e))
		want(t, "views", all(orbit.Views(y.s, nil)), all([]int{}, y.e))
		want(t, "orbits", all(orbit.Orbits(y.s, [][]int{nil})), all([]int{}, y.e))
		want(t, "representatives", all(orbit.Representatives(y.s, [][]int{nil})), all([]int{}, y.e))
		want(t, "unfold", all(orbit.Unfold(y.s, [][]int{nil}, 0)), all([]int{}, y.e))
		want(t, "invariant", all(orbit.Invariant(y.s, nil, nil)), all(false, y.e))
	}
}

// P24.2: Orbits, Representatives, Unfold and Invariant.
func TestOrbitOrbits(t *testing.T) {
	s := lossySystem(t)
	swaps := [][]int{{1, 0}}
	want(t, "orbits", all(orbit.Orbits(s, swaps)), "[[[0 1] [2] [3 7] [4 6] [5 8] [9 10] [11]] 0]")
	want(t, "orbits", all(orbit.Orbits(exampleSystem(t), nil)), "[[[0] [1] [2] [3]] 0]")
	want(t, "representatives", all(orbit.Representatives(s, swaps)), "[[0 2 3 4 5 9 11] 0]")
	want(t, "unfold", all(orbit.Unfold(s, swaps, 6)), "[[4 6] 0]")
	want(t, "unfold", all(orbit.Unfold(s, swaps, 12)), "[[] 6]")
	x := exampleSystem(t)
	want(t, "gap", all(orbit.Orbits(x, swaps)), "[[] 20]")
	want(t, "gap", all(orbit.Unfold(x, swaps, 99)), "[[] 20]")
	want(t, "generate", all(orbit.Representatives(x, [][]int{{1, 0}, {0}})), "[[] 22]")
	values := make([]int, 16)
	want(t, "invariant", all(orbit.Invariant(s, swaps[0], values)), "[true 0]")
	values[0] = 1
	want(t, "invariant", all(orbit.Invariant(s, swaps[0], values)), "[false 0]")
	want(t, "shape", all(orbit.Invariant(s, swaps[0], nil)), "[false 15]")
	want(t, "gap", all(orbit.Invariant(x, swaps[0], nil)), "[false 20]")
	want(t, "mismatch", all(orbit.Invariant(x, []int{0}, nil)), "[false 22]")
}

// P24.3: consequences.
func TestOrbitLaws(t *testing.T) {
	s := crashSystem(t, 1)
	perms, _ := symmetry.Symmetries(s.Problem)
	want(t, "symmetries", len(perms), 6)
	for _, pi := range perms {
		a, e := orbit.Executions(s, pi)
		good(t, "acts", e)
		images, _ := orbit.Views(s, pi)
		for x, y := range a {
			set, _ := execution.Obliged(s, x)
			set, _ = permutation.Set(pi, set)
			want(t, "obliged", all(execution.Obliged(s, y)), all(set, api.OK))
		}
		for view, image := range images {
			v, w := s.Table.Views[view], s.Table.Views[image]
			want(t, "view", all(w.Proc, w.Round, w.Input), all(pi[v.Proc], v.Round, v.Input))
			for q, h := range v.Heard[:3] {
				if h >= 0 {
					h = images[h]
				}
				want(t, "heard", w.Heard[pi[q]], h)
			}
		}
		for _, rho := range perms {
			b, _ := orbit.Executions(s, rho)
			both, _ := permutation.Compose(rho, pi)
			c, _ := orbit.Executions(s, both)
			for x := range a {
				want(t, "composition", c[x], b[a[x]])
			}
		}
	}
	l, _ := orbit.Orbits(s, perms)
	number := 0
	for _, o := range l {
		number += len(o)
	}
	want(t, "disjoint", number, len(s.Executions))
}
