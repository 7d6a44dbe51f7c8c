package tests

import (
	"slices"
	"testing"

	"roundtable/adversary"
	"roundtable/api"
	"roundtable/failure"
	"roundtable/library"
	"roundtable/permutation"
	"roundtable/relate"
	"roundtable/round"
	"roundtable/symmetry"
)

// P21.1: Permute, Invariant and Group.
func TestSymmetryAdversaries(t *testing.T) {
	a, c := adversaryOf(t, 2, "01 1, 01 01"), adversaryOf(t, 2, "0 01, 01 1, 01 01")
	want(t, "permute", sketchAdversary(symmetry.Permute(a, []int{1, 0})), "0 01 > 0, 01 01 > 0")
	want(t, "permute", sketchAdversary(symmetry.Permute(adversaryOf(t, 2, "01 1 > 1", "0 1 !0"), []int{1, 0})), "0 01 > 1; 0 1 !1 > 1")
	want(t, "invariant", all(symmetry.Invariant(a, []int{1, 0})), "[false 0]")
	want(t, "invariant", all(symmetry.Invariant(c, []int{1, 0})), "[true 0]")
	want(t, "invariant", all(symmetry.Invariant(adversaryOf(t, 2, "01 1 > 1, 0 01 > 1", "01 01 > 2", "01 01 > 1"), []int{1, 0})), "[true 0]")
	want(t, "group", all(symmetry.Group(a)), "[[[0 1]] 0]")
	want(t, "group", all(symmetry.Group(c)), "[[[0 1] [1 0]] 0]")
	want(t, "mismatch", all(symmetry.Permute(a, []int{0})), all(api.Adversary{}, api.ErrMismatch))
	want(t, "twice", all(symmetry.Invariant(a, []int{0, 0})), all(false, api.ErrTwice))
	for _, x := range badAdversaries(t) {
		want(t, "permute", all(symmetry.Permute(x.a, nil)), all(api.Adversary{}, x.e))
		want(t, "invariant", all(symmetry.Invariant(x.a, nil)), all(false, x.e))
		want(t, "group", all(symmetry.Group(x.a)), all([]int{}, x.e))
	}
}

// P21.2: Problem, Symmetries and Orbits.
func TestSymmetryProblems(t *testing.T) {
	a, c := adversaryOf(t, 2, "01 1, 01 01"), adversaryOf(t, 2, "0 01, 01 1, 01 01")
	x, _ := library.Consensus(2, 2)
	want(t, "symmetries", all(symmetry.Symmetries(api.Problem{Task: x, Adversary: c, Rounds: 1})), "[[[0 1] [1 0]] 0]")
	want(t, "symmetries", all(symmetry.Symmetries(api.Problem{Task: x, Adversary: a, Rounds: 1})), "[[[0 1]] 0]")
	want(t, "symmetries", all(symmetry.Symmetries(api.Problem{Task: calmTask(), Adversary: c})), "[[[0 1]] 0]")
	p, e := symmetry.Problem(api.Problem{Task: calmTask(), Adversary: a, Rounds: 3}, []int{1, 0})
	want(t, "problem", all(p.Task.Cases[1], sketchAdversary(p.Adversary, e), p.Rounds), "[{[1 0] [[0 0] [1 1]] [[1 1]]} 0 01 > 0, 01 01 > 0 3]")
	for _, y := range []struct {
		p api.Problem
		e api.Errno
	}{
		{api.Problem{}, api.ErrRange}, {api.Problem{Task: x}, api.ErrRange}, {api.Problem{Task: x, Adversary: adversaryOf(t, 3, "0 1 2"), Rounds: 9}, api.ErrMismatch},
		{api.Problem{Task: x, Adversary: a, Rounds: 7}, api.ErrRange}, {api.Problem{Task: x, Adversary: a, Rounds: -1}, api.ErrRange}, {api.Problem{Task: x, Adversary: api.Adversary{N: 2}}, api.ErrMany},
	} {
		want(t, "problem", all(symmetry.Problem(y.p, []int{0, 0})), all(api.Problem{}, y.e))
		want(t, "symmetries", all(symmetry.Symmetries(y.p)), all([]int{}, y.e))
	}
	want(t, "problem", all(symmetry.Problem(api.Problem{Task: x, Adversary: a}, []int{0, 0})), all(api.Problem{}, api.ErrTwice))
	want(t, "problem", all(symmetry.Problem(api.Problem{Task: x, Adversary: a}, []int{0})), all(api.Problem{}, api.ErrMismatch))
	want(t, "orbits", all(symmetry.Orbits(4, [][]int{{1, 0, 2, 3}})), "[[[0 1] [2] [3]] 0]")
	want(t, "orbits", all(symmetry.Orbits(4, [][]int{{1, 0, 2, 3}, {0, 3, 2, 1}})), "[[[0 1 3] [2]] 0]")
	want(t, "orbits", all(symmetry.Orbits(6, nil)), "[[] 2]")
	want(t, "orbits", all(symmetry.Orbits(3, [][]int{{0}})), "[[] 22]")
}

// P21.3: consequences.
func TestSymmetryLaws(t *testing.T) {
	task3, _ := library.Crusader(3, 2)
	crash, _ := failure.Crash(3, 1)
	odd := adversaryOf(t, 3, "01 1 2 > 1, 0 12 2 > 1, 0 1 02 > 1", "012 012 012 !0 > 2, 012 012 012", "012 012 012 !0")
	perms, _ := permutation.All(3)
	for _, a := range []api.Adversary{crash, odd} {
		group, _ := symmetry.Group(a)
		want(t, "closed", all(permutation.Generate(3, group)), all(group, api.OK))
		l, _ := adversary.Words(a, 2)
		for _, pi := range perms {
			renamed, e := symmetry.Permute(a, pi)
			good(t, "permute", e)
			for _, w := range l {
				var v []api.Round
				for _, r := range w {
					s, _ := round.Permute(r, pi)
					v = append(v, s)
				}
				want(t, "word", all(adversary.Allows(renamed, v)), "[true 0]")
			}
			rho := []int{1, 0, 2}
			both, _ := permutation.Compose(rho, pi)
			want(t, "composition", sketchAdversary(symmetry.Permute(renamed, rho)), sketchAdversary(symmetry.Permute(a, both)))
		}
		s, e := symmetry.Symmetries(api.Problem{Task: task3, Adversary: a, Rounds: 1})
		good(t, "symmetries", e)
		of, _ := relate.Symmetries(task3)
		for _, pi := range s {
			want(t, "task", containsVector(of, pi), true)
			want(t, "group", containsVector(group, pi), true)
		}
		orbits, _ := symmetry.Orbits(3, group)
		for _, o := range orbits {
			for _, pi := range group {
				for _, p := range o {
					want(t, "orbit", slices.Contains(o, pi[p]), true)
				}
			}
		}
	}
}
