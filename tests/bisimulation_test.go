package tests

import (
	"strings"
	"testing"

	"roundtable/api"
	"roundtable/bisimulation"
	"roundtable/formula"
	"roundtable/partition"
	"roundtable/points"
	"roundtable/temporal"
)

type badStructure struct {
	x bisimulation.Structure
	e api.Errno
}

func badStructures() []badStructure {
	return []badStructure{
		{bisimulation.Structure{Atoms: make([]int, api.MaxSteps+1)}, api.ErrMany}, {bisimulation.Structure{Agents: make([][]int, 6), Next: []int{1}}, api.ErrMany}, {bisimulation.Structure{Atoms: []int{1}, Agents: [][]int{{5}}}, api.ErrShape},
		{bisimulation.Structure{Atoms: []int{1}, Next: []int{1}, Agents: [][]int{{5}}}, api.ErrRange}, {bisimulation.Structure{Atoms: []int{1}, Next: []int{-2}}, api.ErrRange}, {bisimulation.Structure{Atoms: []int{1}, Next: []int{0}, Agents: [][]int{{0}, {5}}}, api.ErrOrder},
		{bisimulation.Structure{Atoms: []int{1}, Next: []int{0}, Agents: [][]int{{0, 0}}}, api.ErrShape},
	}
}

func structure(agents ...[]int) bisimulation.Structure {
	return bisimulation.Structure{Atoms: []int{0, 0, 0, 1}, Next: []int{-1, -1, -1, -1}, Agents: agents}
}

// P40.1: Check, Of, Verify and Rank.
func TestBisimulationChecks(t *testing.T) {
	x := structure([]int{0, 1, 2, 2})
	want(t, "check", bisimulation.Check(x), api.OK)
	want(t, "check", bisimulation.Check(bisimulation.Structure{}), api.OK)
	want(t, "verify", bisimulation.Verify(x, []int{0, 0, 1, 2}), api.OK)
	want(t, "verify", bisimulation.Verify(x, []int{0, 1, 2, 3}), api.OK)
	want(t, "verify", bisimulation.Verify(x, []int{0, 0, 0, 1}), api.ErrProof)
	want(t, "verify", bisimulation.Verify(structure(), []int{0, 0, 0, 0}), api.ErrProof)
	want(t, "verify", bisimulation.Verify(x, []int{0, 0}), api.ErrShape)
	want(t, "verify", bisimulation.Verify(x, []int{1}), api.ErrOrder)
	want(t, "next", bisimulation.Verify(bisimulation.Structure{Atoms: []int{0, 0}, Next: []int{1, -1}}, []int{0, 0}), api.ErrProof)
	want(t, "rank", all(bisimulation.Rank(x, 0, 2)), "[1 true 0]")
	want(t, "rank", all(bisimulation.Rank(x, 0, 3)), "[0 true 0]")
	want(t, "rank", all(bisimulation.Rank(x, 0, 1)), "[0 false 0]")
	for _, bad := range [][2]int{{0, 4}, {4, 0}, {-1, 0}, {0, -1}} {
		want(t, "rank", all(bisimulation.Rank(x, bad[0], bad[1])), "[0 false 6]")
	}
	chain := bisimulation.Structure{Atoms: []int{0, 0, 0, 7}, Next: []int{1, 2, 3, 3}}
	want(t, "rank", all(bisimulation.Rank(chain, 0, 1)), "[2 true 0]")
	s := exampleSystem(t)
	of, e := bisimulation.Of(s)
	want(t, "of", all(of, e), "[{[0 1 0 2 3 4 3 5] [[0 1 0 2 0 1 0 3] [0 1 0 1 2 3 2 3]] [1 -1 3 -1 5 -1 7 -1]} 0]")
	want(t, "rank", all(bisimulation.Rank(of, 0, 2)), "[1 true 0]")
	for _, y := range badStructures() {
		want(t, "check", bisimulation.Check(y.x), y.e)
		want(t, "verify", bisimulation.Verify(y.x, []int{5}), y.e)
		want(t, "rank", all(bisimulation.Rank(y.x, -1, 0)), all(0, false, y.e))
		want(t, "coarsest", all(bisimulation.Coarsest(y.x)), all([]int{}, y.e))
		want(t, "quotient", all(bisimulation.Quotient(y.x)), all(bisimulation.Structure{}, []int{}, y.e))
	}
	for _, y := range badSystems(t) {
		want(t, "of", all(bisimulation.Of(y.s)), all(bisimulation.Structure{}, y.e))
		want(t, "formula", all(bisimulation.Formula(y.s, -1, 0)), all(api.Formula{}, false, y.e))
	}
}

// P40.2: Coarsest, Quotient and Formula.
func TestBisimulationQuotients(t *testing.T) {
	want(t, "coarsest", all(bisimulation.Coarsest(structure([]int{0, 1, 1, 2}))), "[[0 0 0 1] 0]")
	want(t, "coarsest", all(bisimulation.Coarsest(structure([]int{0, 1, 2, 2}))), "[[0 0 1 2] 0]")
	want(t, "coarsest", all(bisimulation.Coarsest(bisimulation.Structure{})), "[[] 0]")
	want(t, "quotient", all(bisimulation.Quotient(structure([]int{0, 1, 2, 2}))), "[{[0 0 1] [[0 1 1]] [-1 -1 -1]} [0 0 1 2] 0]")
	s := exampleSystem(t)
	f, ok, e := bisimulation.Formula(s, 0, 2)
	holds, _ := temporal.Eval(s, api.Rule{}, f)
	want(t, "formula", all(holds[0], holds[2], ok, e), "[true false true 0]")
	want(t, "same", all(bisimulation.Formula(s, 3, 3)), all(api.Formula{}, false, api.OK))
	for _, bad := range [][2]int{{3, 8}, {8, 3}, {-1, 3}, {3, -1}} {
		want(t, "none", all(bisimulation.Formula(s, bad[0], bad[1])), all(api.Formula{}, false, api.ErrNone))
	}
}

// P40.3: consequences.
func TestBisimulationLaws(t *testing.T) {
	var random source
	for range 60 {
		n := 6
		x := bisimulation.Structure{}
		var a, b []int
		for range n {
			x.Atoms, x.Next = append(x.Atoms, random.below(2)), append(x.Next, random.below(n+1)-1)
			a, b = append(a, random.below(4)), append(b, random.below(3))
		}
		a, _ = partition.Of(a)
		b, _ = partition.Of(b)
		x.Agents = [][]int{a, b}
		l, _ := bisimulation.Coarsest(x)
		want(t, "is one", bisimulation.Verify(x, l), api.OK)
		classes, _ := partition.Count(l)
		for i := range classes {
			for k := range i {
				keys := make([]int, n)
				for j := range keys {
					keys[j] = l[j]
					if l[j] == i {
						keys[j] = k
					}
				}
				merged, _ := partition.Of(keys)
				want(t, "is none", bisimulation.Verify(x, merged), api.ErrProof)
			}
		}
		q, _, _ := bisimulation.Quotient(x)
		again, labels, _ := bisimulation.Quotient(q)
		want(t, "quotient", all(bisimulation.Check(q), again), all(api.OK, q))
		for i, label := range labels {
			want(t, "own", i, label)
		}
	}
	s := systemOf(t, consensusOf(t, 0, 1, 3), adversaryOf(t, 2, "0 01, 01 1, 01 01"), 2)
	n, _ := points.Count(s)
	x, _ := bisimulation.Of(s)
	l, _ := bisimulation.Coarsest(x)
	for a := range n {
		for b := range n {
			if (a*7+b*3)%11 != 0 {
				continue
			}
			f, ok, e := bisimulation.Formula(s, a, b)
			want(t, "different", ok, l[a] != l[b])
			if ok {
				set, _ := temporal.Eval(s, api.Rule{}, f)
				want(t, "formula", all(set[a], set[b], formula.Check(f, 2), e), "[true false 0 0]")
			}
		}
	}
	for range 60 {
		f := randomFormula(&random, 4)
		text, _ := formula.Format(f, 2)
		set, _ := temporal.Eval(s, api.Rule{}, f)
		if strings.Contains(text, "decided") || strings.Contains(text, "D(") {
			continue
		}
		for a := range n {
			for b := range a {
				if l[a] == l[b] {
					want(t, text, set[a], set[b])
				}
			}
		}
	}
}
