package tests

import (
	"testing"

	"roundtable/api"
	"roundtable/formula"
	"roundtable/knowledge"
	"roundtable/points"
	"roundtable/temporal"
)

// P38.1: Next, Always, Eventually and Until.
func TestTemporalOperators(t *testing.T) {
	s := exampleSystem(t)
	set := setOf(8, 1, 2, 7)
	want(t, "next", pointsOf(temporal.Next(s, set)), "[0 6]")
	want(t, "always", pointsOf(temporal.Always(s, set)), "[1 7]")
	want(t, "eventually", pointsOf(temporal.Eventually(s, set)), "[0 1 2 6 7]")
	want(t, "until", pointsOf(temporal.Until(s, setOf(8, 2, 4), setOf(8, 5, 6))), "[4 5 6]")
	want(t, "shape", all(temporal.Next(s, nil)), "[[] 15]")
	want(t, "shape", all(temporal.Always(s, set[:7])), "[[] 15]")
	want(t, "shape", all(temporal.Eventually(s, nil)), "[[] 15]")
	want(t, "shape", all(temporal.Until(s, set, nil)), "[[] 15]")
	want(t, "shape", all(temporal.Until(s, nil, set)), "[[] 15]")
	for _, x := range badSystems(t) {
		want(t, "next", all(temporal.Next(x.s, nil)), all([]int{}, x.e))
		want(t, "always", all(temporal.Always(x.s, nil)), all([]int{}, x.e))
		want(t, "eventually", all(temporal.Eventually(x.s, nil)), all([]int{}, x.e))
		want(t, "until", all(temporal.Until(x.s, nil, nil)), all([]int{}, x.e))
		want(t, "eval", all(temporal.Eval(x.s, api.Rule{Out: []int{1}}, api.Formula{})), all([]int{}, x.e))
		want(t, "holds", all(temporal.Holds(x.s, api.Rule{Out: []int{1}}, api.Formula{}, -1)), all(false, x.e))
		want(t, "valid", all(temporal.Valid(x.s, api.Rule{Out: []int{1}}, api.Formula{})), all(false, 0, x.e))
		want(t, "since", all(temporal.Since(x.s, api.Rule{Out: []int{1}}, api.Formula{})), all([]int{}, x.e))
	}
}

// P38.2: Eval, Holds, Valid and Since.
func TestTemporalFormulas(t *testing.T) {
	s := exampleSystem(t)
	none := api.Rule{}
	f := formulaOf(t, "eventually(heard(0, 1))", 2)
	want(t, "eval", pointsOf(temporal.Eval(s, none, f)), "[2 3 6 7]")
	want(t, "holds", all(temporal.Holds(s, none, f, 6)), "[true 0]")
	want(t, "holds", all(temporal.Holds(s, none, f, 5)), "[false 0]")
	want(t, "holds", all(temporal.Holds(s, none, f, 8)), "[false 6]")
	want(t, "valid", all(temporal.Valid(s, none, f)), "[false 0 0]")
	want(t, "valid", all(temporal.Valid(s, none, formulaOf(t, "given(0)", 2))), "[true 0 0]")
	want(t, "valid", all(temporal.Valid(s, none, formulaOf(t, "at(0)", 2))), "[false 1 0]")
	want(t, "since", all(temporal.Since(s, none, formulaOf(t, "heard(0, 1)", 2))), "[[-1 1 -1 1] 0]")
	want(t, "since", all(temporal.Since(s, none, formulaOf(t, "at(0) or heard(1, 0)", 2))), "[[0 0 0 0] 0]")
	want(t, "mixed", pointsOf(temporal.Eval(s, none, formulaOf(t, "next(K(0, heard(0, 1))) and K(1, eventually(input(1, 1)))", 2))), "[6]")
	want(t, "mixed", pointsOf(temporal.Eval(s, none, formulaOf(t, "C(everyone, not next(true)) or (D(everyone, next(heard(0, 1))) or E({0}, always(at(0))))", 2))), "[1 3 5 7]")
	rule := api.Rule{Out: []int{-1, -1, 0, 0, 1, -1, 1, 0}}
	want(t, "decided", pointsOf(temporal.Eval(s, rule, formulaOf(t, "not decided(0, 0) until decided(0, 1)", 2))), "[2 3]")
	for _, x := range []struct {
		rule api.Rule
		f    api.Formula
		e    api.Errno
	}{{api.Rule{Out: []int{1}}, api.Formula{Op: 99}, api.ErrShape}, {none, api.Formula{Op: 99}, api.ErrArg}, {none, formulaOf(t, "faulty(2)", 3), api.ErrRange}} {
		want(t, "eval", all(temporal.Eval(s, x.rule, x.f)), all([]int{}, x.e))
		want(t, "holds", all(temporal.Holds(s, x.rule, x.f, -1)), all(false, x.e))
		want(t, "valid", all(temporal.Valid(s, x.rule, x.f)), all(false, 0, x.e))
		want(t, "since", all(temporal.Since(s, x.rule, x.f)), all([]int{}, x.e))
	}
}

// P38.3: consequences.
func TestTemporalLaws(t *testing.T) {
	x := exampleSystem(t)
	s := systemOf(t, x.Problem.Task, adversaryOf(t, 2, "0 01, 01 1 > 1, 01 01 !0 > 2", "01 01", "0 1 !0"), 2)
	n, _ := points.Count(s)
	var random source
	for range 30 {
		a, b, complement := make([]bool, n), make([]bool, n), make([]bool, n)
		for i := range n {
			a[i], b[i] = random.below(2) == 0, random.below(3) == 0
			complement[i] = !a[i]
		}
		al, _ := temporal.Always(s, a)
		ev, _ := temporal.Eventually(s, complement)
		un, _ := temporal.Until(s, a, b)
		for i := range n {
			want(t, "complement", al[i], !ev[i])
			last := i%3 == 2
			want(t, "always", al[i], a[i] && (last || al[i+1]))
			want(t, "until", un[i], b[i] || a[i] && !last && un[i+1])
		}
	}
	for range 150 {
		f := randomFormula(&random, 5)
		if formula.Check(f, 2) != api.OK {
			continue
		}
		set, e := temporal.Eval(s, api.Rule{}, f)
		good(t, "eval", e)
		if !formula.Temporal(f) {
			want(t, "layer 37", all(knowledge.Eval(s, api.Rule{}, f)), all(set, api.OK))
		}
		if normal, e := formula.Normal(f, 2); e == api.OK {
			want(t, "normal", all(temporal.Eval(s, api.Rule{}, normal)), all(set, api.OK))
		}
	}
	for _, text := range []string{"not (heard(0, 1) and not always(K(0, heard(0, 1))))", "not (faulty(0) and not always(faulty(0)))", "not K(1, given(0)) or always(K(1, given(0)))"} {
		want(t, text, all(temporal.Valid(s, api.Rule{}, formulaOf(t, text, 2))), "[true 0 0]")
	}
}
