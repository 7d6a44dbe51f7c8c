package tests

import (
	"testing"

	"roundtable/api"
	"roundtable/average"
	"roundtable/decide"
	"roundtable/library"
	"roundtable/optimal"
	"roundtable/rule"
)

// P51.1: Least and Worst.
func TestAverageRules(t *testing.T) {
	p := problemOf(t, 1, "01 01")
	s := systemOf(t, p.Task, p.Adversary, 1)
	for _, f := range []func(api.Problem) (api.Report, api.Errno){average.Least, average.Worst} {
		report, e := f(p)
		want(t, "measure", all(report.Worst, report.Total, report.Optimal, e), "[1 4 false 0]")
		want(t, "measure", all(rule.Measure(s, report.Rule)), "[1 4 0]")
		want(t, "solves", all(rule.Solves(s, report.Rule)), "[true 0 0]")
		want(t, "early", all(rule.Early(s, report.Rule)), all(report.Rule, api.OK))
		want(t, "zero", all(f(exampleSystem(t).Problem)), "[{{[0 0 0 0 0 0 0 0]} true 0 0} 0]")
		want(t, "none", all(f(problemOf(t, 1, "0 01, 01 1, 01 01"))), all(api.Report{}, api.ErrNone))
		want(t, "large", all(f(largeProblem(t))), all(api.Report{}, api.ErrLimit))
		want(t, "wide", all(f(wideProblem(t))), all(api.Report{}, api.ErrLimit))
		leader, _ := library.Leader(3)
		want(t, "choices", all(f(api.Problem{Task: leader, Adversary: adversaryOf(t, 3, "0 1 2, 0 01 2, 0 1 12, 0 01 12, 01 1 2, 01 01 2"), Rounds: 2})), all(api.Report{}, api.ErrLimit))
		for _, x := range badProblems(t) {
			want(t, "bad", all(f(x.p)), all(api.Report{}, x.e))
		}
	}
}

// P51.2: Bound.
func TestAverageBound(t *testing.T) {
	want(t, "bound", all(average.Bound(problemOf(t, 1, "01 01"))), "[0 0 0]")
	want(t, "bound", all(average.Bound(problemOf(t, 1, "0 01, 01 01"))), "[1 8 0]")
	want(t, "bound", all(average.Bound(problemOf(t, 1, "0 01, 01 1, 01 01"))), "[0 0 6]")
	want(t, "bound", all(average.Bound(wideProblem(t))), "[0 0 17]")
	for _, x := range badProblems(t) {
		want(t, "bad", all(average.Bound(x.p)), all(0, 0, x.e))
	}
}

// P51.3: consequences.
func TestAverageLaws(t *testing.T) {
	approximate, _ := library.Approximate(2, 2)
	renaming, _ := library.Renaming(2, 2, 3)
	for i, p := range []api.Problem{
		problemOf(t, 2, "0 01, 01 01"), problemOf(t, 1, "01 01"), {Task: approximate, Adversary: adversaryOf(t, 2, "0 01, 01 1, 01 01"), Rounds: 1}, {Task: renaming, Adversary: adversaryOf(t, 2, "0 01, 01 1"), Rounds: 1},
	} {
		name := string(rune('a' + i))
		least, e := average.Least(p)
		if e == api.ErrLimit {
			continue
		}
		good(t, name, e)
		worst, e := average.Worst(p)
		good(t, name, e)
		bw, bt, _ := average.Bound(p)
		want(t, name, least.Total <= worst.Total && worst.Worst <= least.Worst && bw <= worst.Worst && bt <= least.Total, true)
		s := systemOf(t, p.Task, p.Adversary, p.Rounds)
		_, r, _, _ := decide.Decide(p)
		w, total, _ := rule.Measure(s, r)
		want(t, name, least.Total <= total && worst.Worst <= w, true)
		report, _, _ := optimal.Optimal(p)
		if report.Optimal {
			want(t, name, all(least.Worst, least.Total, worst.Worst, worst.Total, bw, bt), all(report.Worst, report.Total, report.Worst, report.Total, report.Worst, report.Total))
		}
		want(t, name, least.Optimal, report.Optimal)
	}
}
