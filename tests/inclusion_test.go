package tests

import (
	"testing"

	"roundtable/adversary"
	"roundtable/api"
	"roundtable/combine"
	"roundtable/failure"
	"roundtable/inclusion"
)

// P20.1: Includes, Simulation and Equivalent.
func TestInclusionSimulations(t *testing.T) {
	a := adversaryOf(t, 2, "01 1, 01 01")
	b := adversaryOf(t, 2, "01 01 > 1", "01 1, 01 01")
	want(t, "includes", all(inclusion.Includes(a, b)), "[[] true 0]")
	want(t, "includes", all(inclusion.Includes(b, a)), all(wordOf(t, 2, "01 1"), false, api.OK))
	want(t, "simulation", all(inclusion.Simulation(a, b)), "[[[0 0] [1 0]] true 0]")
	want(t, "simulation", all(inclusion.Simulation(b, a)), "[[] false 0]")
	want(t, "equivalent", all(inclusion.Equivalent(a, b)), all(wordOf(t, 2, "01 1"), false, api.OK))
	want(t, "equivalent", all(inclusion.Equivalent(a, a)), "[[] true 0]")
	c := adversaryOf(t, 2, "01 01 > 1", "01 1, 01 01 > 0")
	want(t, "deeper", all(inclusion.Includes(c, b)), all(wordOf(t, 2, "01 01 / 01 01 / 01 1"), false, api.OK))
	three := adversaryOf(t, 3, "0 1 2")
	want(t, "mismatch", all(inclusion.Includes(a, three)), "[[] false 22]")
	want(t, "mismatch", all(inclusion.Simulation(a, three)), "[[] false 22]")
	want(t, "mismatch", all(inclusion.Equivalent(a, three)), "[[] false 22]")
	for _, x := range badAdversaries(t) {
		want(t, "includes", all(inclusion.Includes(x.a, three)), all([]int{}, false, x.e))
		want(t, "simulation", all(inclusion.Simulation(a, x.a)), all([]int{}, false, x.e))
		want(t, "equivalent", all(inclusion.Equivalent(a, x.a)), all([]int{}, false, x.e))
		want(t, "verify", inclusion.Verify(x.a, api.Adversary{}, nil), x.e)
		want(t, "extra", all(inclusion.Extra(a, x.a, -1)), all(0, x.e))
	}
}

// P20.2: Verify and Extra.
func TestInclusionExtra(t *testing.T) {
	a := adversaryOf(t, 2, "01 1, 01 01")
	b := adversaryOf(t, 2, "01 01 > 1", "01 1, 01 01")
	want(t, "verify", inclusion.Verify(a, b, [][2]int{{0, 0}, {1, 0}}), api.OK)
	want(t, "verify", inclusion.Verify(a, b, [][2]int{{1, 0}, {0, 0}, {1, 0}}), api.OK)
	want(t, "verify", inclusion.Verify(a, b, [][2]int{{0, 0}}), api.ErrProof)
	want(t, "verify", inclusion.Verify(a, b, [][2]int{{1, 0}}), api.ErrProof)
	want(t, "verify", inclusion.Verify(a, b, nil), api.ErrProof)
	want(t, "verify", inclusion.Verify(b, a, [][2]int{{0, 0}, {0, 1}}), api.ErrProof)
	want(t, "verify", inclusion.Verify(a, b, [][2]int{{0, 1}}), api.ErrRange)
	want(t, "verify", inclusion.Verify(a, b, [][2]int{{2, 0}}), api.ErrRange)
	want(t, "verify", inclusion.Verify(a, b, make([][2]int, api.MaxSteps+1)), api.ErrMany)
	want(t, "verify", inclusion.Verify(a, b, make([][2]int, api.MaxSteps)), api.ErrProof)
	want(t, "verify", inclusion.Verify(a, adversaryOf(t, 3, "0 1 2"), nil), api.ErrMismatch)
	for k, extra := range []int{0, 1, 2, 4} {
		want(t, "extra", all(inclusion.Extra(b, a, k)), all(extra, api.OK))
		want(t, "none", all(inclusion.Extra(a, b, k)), "[0 0]")
	}
	want(t, "extra", all(inclusion.Extra(a, b, 7)), "[0 2]")
	want(t, "extra", all(inclusion.Extra(a, adversaryOf(t, 3, "0 1 2"), 7)), "[0 22]")
	silent := adversaryOf(t, 3, "0 1 2")
	full, _ := failure.Graphs(3, yes)
	want(t, "limit", all(inclusion.Extra(silent, full, 4)), "[0 17]")
	want(t, "extra", all(inclusion.Extra(silent, full, 3)), "[262143 0]")
}

// P20.3: consequences.
func TestInclusionLaws(t *testing.T) {
	var l []api.Adversary
	for f := range 3 {
		a, _ := failure.Crash(3, f)
		b, _ := failure.Partition(3, f)
		c, _ := combine.Or(a, b)
		d, _ := combine.And(b, c)
		l = append(l, a, b, c, d)
	}
	includes := func(a, b api.Adversary) bool {
		_, ok, e := inclusion.Includes(a, b)
		good(t, "includes", e)
		return ok
	}
	for _, a := range l {
		want(t, "reflexive", includes(a, a), true)
		for _, b := range l {
			_, equivalent, _ := inclusion.Equivalent(a, b)
			want(t, "equivalent", equivalent, includes(a, b) && includes(b, a))
			pairs, ok, _ := inclusion.Simulation(a, b)
			if ok {
				want(t, "simulation", inclusion.Verify(a, b, pairs), api.OK)
				want(t, "extra", all(inclusion.Extra(a, b, 2)), "[0 0]")
			} else {
				w, _, _ := inclusion.Includes(a, b)
				want(t, "word of b", all(adversary.Allows(b, w)), "[true 0]")
				want(t, "word of a", all(adversary.Allows(a, w)), "[false 0]")
				want(t, "beginning", all(adversary.Allows(a, w[:len(w)-1])), "[true 0]")
			}
			for _, c := range l {
				if includes(a, b) && includes(b, c) {
					want(t, "transitive", includes(a, c), true)
				}
			}
		}
	}
}
