package tests

import (
	"strings"
	"testing"

	"roundtable/api"
	"roundtable/formula"
	"roundtable/permutation"
)

type badFormula struct {
	f api.Formula
	e api.Errno
}

// badFormulas are not well-formed for 2 processes.
func badFormulas() []badFormula {
	loop := api.Formula{Op: api.FormulaNot, Args: []api.Formula{{}}}
	loop.Args[0] = loop
	return []badFormula{
		{loop, api.ErrMany}, {api.Formula{Op: 18}, api.ErrArg}, {api.Formula{Op: api.FormulaNot}, api.ErrShape}, {api.Formula{Op: api.FormulaFaulty, Proc: 2}, api.ErrRange}, {api.Formula{Op: api.FormulaFaulty, Other: 1}, api.ErrForm},
	}
}

// P35.1: Check, Same, Size, Agents, Nesting and Temporal.
func TestFormulaQuestions(t *testing.T) {
	f := formulaOf(t, "not (input(0, 1) and not K(1, input(0, 1)))", 2)
	want(t, "check", formula.Check(f, 2), api.OK)
	want(t, "check", formula.Check(f, 1), api.ErrRange)
	want(t, "check", formula.Check(f, 6), api.ErrRange)
	want(t, "size", all(formula.Size(f)), "[6 5]")
	want(t, "agents", formula.Agents(f), 2)
	want(t, "agents", formula.Agents(formulaOf(t, "E({0}, K(3, true)) or C({1}, D({}, true))", 4)), 11)
	want(t, "agents", formula.Agents(api.Formula{Op: api.FormulaAnd, Proc: 1, Group: 9, Args: []api.Formula{{Op: api.FormulaKnows, Proc: 5}, {Op: api.FormulaKnows, Proc: -1}, {Op: api.FormulaCommon, Group: 32, Proc: 1}, {Op: api.FormulaEveryone, Group: 16}}}), 16)
	for _, op := range []int{-1, 18, 99} {
		odd := api.Formula{Op: op, Args: []api.Formula{{Op: api.FormulaNext}, {Op: api.FormulaCommon, Group: 3}}}
		want(t, "unknown", all(formula.Agents(odd), formula.Nesting(odd), formula.Temporal(odd)), "[3 1 true]")
	}
	want(t, "nesting", formula.Nesting(f), 1)
	want(t, "nesting", formula.Nesting(formulaOf(t, "E({0}, next(K(3, true) and D({}, at(1)))) or K(0, true)", 4)), 2)
	want(t, "nesting", formula.Nesting(api.Formula{}), 0)
	want(t, "temporal", formula.Temporal(f), false)
	for _, text := range []string{"next(true)", "K(0, always(true))", "not eventually(true)", "true until true"} {
		want(t, "temporal", formula.Temporal(formulaOf(t, text, 2)), true)
	}
	g := formulaOf(t, "not (input(0, 1) and not K(1, input(0, 0)))", 2)
	want(t, "same", []bool{formula.Same(f, f), formula.Same(f, g), formula.Same(api.Formula{Op: 99}, api.Formula{Op: 99, Args: []api.Formula{}}), formula.Same(api.Formula{Group: 1}, api.Formula{})}, "[true false true false]")
	for _, x := range badFormulas() {
		want(t, "check", formula.Check(x.f, 2), x.e)
	}
}

// P35.2: Parts, Normal, Permute, Format and Parse.
func TestFormulaChanges(t *testing.T) {
	text := func(f api.Formula, e api.Errno) string {
		good(t, "formula", e)
		s, _ := formula.Format(f, 2)
		return s
	}
	f := formulaOf(t, "not (input(0, 1) and not K(1, input(0, 1)))", 2)
	l, e := formula.Parts(f, 2)
	var parts []string
	for _, p := range l {
		parts = append(parts, text(p, e))
	}
	want(t, "parts", strings.Join(parts, "; "), "input(0, 1); K(1, input(0, 1)); not K(1, input(0, 1)); input(0, 1) and not K(1, input(0, 1)); not (input(0, 1) and not K(1, input(0, 1)))")
	for src, wanted := range map[string]string{
		"not (input(0, 1) and not K(1, input(0, 1)))": "not input(0, 1) or K(1, input(0, 1))", "not always(not at(1))": "eventually(at(1))", "not next(not not at(1))": "not next(at(1))", "not not not at(1)": "not at(1)",
		"not (at(0) or eventually(at(1)))": "not at(0) and always(not at(1))", "not (not at(0) until not not at(1))": "not (not at(0) until at(1))", "K(0, not (at(0) and at(1)))": "K(0, not at(0) or not at(1))", "not E({1}, not not true)": "not E({1}, true)",
	} {
		want(t, src, text(formula.Normal(formulaOf(t, src, 2), 2)), wanted)
	}
	wide := api.Formula{}
	for range 5 {
		wide = api.Formula{Op: api.FormulaAnd, Args: []api.Formula{wide, wide}}
	}
	wide = api.Formula{Op: api.FormulaNot, Args: []api.Formula{{Op: api.FormulaAnd, Args: []api.Formula{wide, wide.Args[0]}}}}
	want(t, "many", all(formula.Normal(wide, 2)), all(api.Formula{}, api.ErrMany))
	want(t, "permute", text(formula.Permute(formulaOf(t, "C({0}, heard(0, 1))", 2), []int{1, 0})), "C({1}, heard(1, 0))")
	want(t, "permute", text(formula.Permute(formulaOf(t, "faulty(0) or decided(1, 0) until E({1}, D({0}, heard(0, 0)))", 2), []int{1, 0})), "faulty(1) or decided(0, 0) until E({0}, D({1}, heard(1, 1)))")
	want(t, "permute", text(formula.Permute(formulaOf(t, "K(0, input(1, 1) and at(1)) or given(1)", 2), []int{1, 0})), "K(1, input(0, 1) and at(1)) or given(1)")
	want(t, "permute", all(formula.Permute(f, []int{0, 0})), all(api.Formula{}, api.ErrTwice))
	want(t, "permute", all(formula.Permute(f, []int{0})), all(api.Formula{}, api.ErrRange))
	want(t, "parse", all(formula.Parse("K(1, true)", 2)), all(formulaOf(t, "K(1, true)", 2), 0, api.OK))
	want(t, "parse", all(formula.Parse("K(2, true)", 2)), all(api.Formula{}, 2, api.ErrRange))
	want(t, "parse", all(formula.Parse("K(2, true", 9)), all(api.Formula{}, 9, api.ErrSyntax))
	want(t, "parse", all(formula.Parse("K(2, true)", 9)), all(api.Formula{}, 0, api.ErrRange))
	for _, x := range badFormulas() {
		want(t, "parts", all(formula.Parts(x.f, 2)), all([]int{}, x.e))
		want(t, "normal", all(formula.Normal(x.f, 2)), all(api.Formula{}, x.e))
		want(t, "permute", all(formula.Permute(x.f, []int{1, 0})), all(api.Formula{}, x.e))
		want(t, "format", all(formula.Format(x.f, 2)), all("", x.e))
	}
}

// randomFormula makes a formula for 2 processes.
func randomFormula(random *source, depth int) api.Formula {
	op := random.below(18)
	if depth <= 1 {
		op = random.below(7)
	}
	f := api.Formula{Op: op}
	switch op {
	case api.FormulaIn, api.FormulaDecided:
		f.Proc, f.Value = random.below(2), random.below(2)
	case api.FormulaGiven, api.FormulaAt:
		f.Value = random.below(2)
	case api.FormulaHeard:
		f.Proc, f.Other = random.below(2), random.below(2)
	case api.FormulaFaulty, api.FormulaKnows:
		f.Proc = random.below(2)
	case api.FormulaEveryone, api.FormulaDistributed, api.FormulaCommon:
		f.Group = random.below(4)
	}
	args := 0
	if op >= api.FormulaNot {
		args = 1
	}
	if op == api.FormulaAnd || op == api.FormulaOr || op == api.FormulaUntil {
		args = 2
	}
	for range args {
		f.Args = append(f.Args, randomFormula(random, depth-1))
	}
	return f
}

// P35.3: consequences.
func TestFormulaLaws(t *testing.T) {
	var random source
	pi := []int{1, 0}
	for range 300 {
		f := randomFormula(&random, 6)
		if formula.Check(f, 2) != api.OK {
			continue
		}
		text, e := formula.Format(f, 2)
		good(t, "format", e)
		want(t, "parse", all(formula.Parse(text, 2)), all(f, 0, api.OK))
		if normal, e := formula.Normal(f, 2); e == api.OK {
			want(t, "normal", all(formula.Normal(normal, 2)), all(normal, api.OK))
		}
		l, _ := formula.Parts(f, 2)
		want(t, "last", l[len(l)-1], f)
		g, _ := formula.Permute(f, pi)
		want(t, "twice", all(formula.Permute(g, pi)), all(f, api.OK))
		want(t, "size", all(formula.Size(g)), all(formula.Size(f)))
		agents, _ := permutation.Set(pi, formula.Agents(f))
		want(t, "agents", formula.Agents(g), agents)
	}
}
