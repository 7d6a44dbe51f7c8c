package tests

import (
	"slices"
	"testing"

	"roundtable/api"
	"roundtable/decide"
	"roundtable/encode"
	"roundtable/execution"
	"roundtable/failure"
	"roundtable/library"
	"roundtable/optimal"
	"roundtable/refute"
	"roundtable/rule"
)

// P50.1: Can and Optimal.
func TestOptimalRules(t *testing.T) {
	all1 := problemOf(t, 1, "01 01")
	s := systemOf(t, all1.Task, all1.Adversary, 1)
	want(t, "can", all(optimal.Can(s, 0, 0)), "[true [] 0]")
	can, proof, e := optimal.Can(s, 0, 1)
	c, _ := encode.Encode(s)
	force, _ := encode.Force(s, 0, 1)
	c.List = append(c.List, force...)
	_, refuted := refute.Verify(c, proof)
	want(t, "cannot", all(can, refuted, e), "[false 0 0]")
	want(t, "can", all(optimal.Can(s, len(s.Table.Views), 9)), "[false [] 6]")
	want(t, "can", all(optimal.Can(s, -1, 9)), "[false [] 6]")
	want(t, "can", all(optimal.Can(s, 0, 2)), "[false [] 2]")
	want(t, "can", all(optimal.Can(s, 0, -1)), "[false [] 2]")
	faulty := systemOf(t, consensusOf(t, 0), adversaryOf(t, 2, "0 1 !0"), 1)
	want(t, "can", all(optimal.Can(faulty, 0, 0)), "[false [] 16]")
	report, denials, e := optimal.Optimal(all1)
	want(t, "optimal", all(report.Optimal, report.Worst, len(denials), e), "[false 1 0 0]")
	want(t, "solves", all(rule.Solves(s, report.Rule)), "[true 0 0]")
	want(t, "early", all(rule.Early(s, report.Rule)), all(report.Rule, api.OK))
	zero := api.Problem{Task: consensusOf(t, 0, 1), Adversary: adversaryOf(t, 2, "0 01, 01 01"), Rounds: 1}
	report, denials, e = optimal.Optimal(zero)
	want(t, "zero", all(report, len(denials), e), "[{{[0 0 0 0 0 0 0 0]} true 0 0} 0 0]")
	good1 := problemOf(t, 1, "0 01, 01 01")
	report, denials, e = optimal.Optimal(good1)
	want(t, "one", all(report.Optimal, report.Worst, report.Total, optimal.Verify(good1, report.Rule, denials), e), "[true 1 8 0 0]")
	want(t, "none", all(optimal.Optimal(problemOf(t, 1, "0 01, 01 1, 01 01"))), all(api.Report{}, []int{}, api.ErrNone))
	for _, x := range badProblems(t) {
		want(t, "optimal", all(optimal.Optimal(x.p)), all(api.Report{}, []int{}, x.e))
		want(t, "verify", optimal.Verify(x.p, api.Rule{}, nil), x.e)
	}
	for _, p := range []api.Problem{largeProblem(t), wideProblem(t)} {
		want(t, "limit", all(optimal.Optimal(p)), all(api.Report{}, []int{}, api.ErrLimit))
	}
	for _, x := range badSystems(t) {
		want(t, "can", all(optimal.Can(x.s, -1, -1)), all(false, []int{}, x.e))
		want(t, "floor", all(optimal.Floor(x.s)), all([]int{}, x.e))
	}
}

// P50.2: Verify and Floor.
func TestOptimalVerify(t *testing.T) {
	p := problemOf(t, 1, "0 01, 01 01")
	report, denials, _ := optimal.Optimal(p)
	r := report.Rule
	s := systemOf(t, p.Task, p.Adversary, 1)
	for i, x := range []struct {
		r api.Rule
		l []optimal.Denial
		e api.Errno
	}{
		{r, denials, api.OK}, {api.Rule{}, denials, api.ErrShape}, {api.Rule{Out: make([]int, 14)}, denials, api.ErrProof}, {r, denials[1:], api.ErrShape}, {r, slices.Concat(denials[1:], denials[:1]), api.ErrOrder},
		{r, append([]optimal.Denial{{View: denials[0].View, Value: denials[0].Value}}, denials[1:]...), api.ErrProof}, {r, append([]optimal.Denial{{View: denials[0].View, Value: 1, Proof: denials[0].Proof}}, denials[1:]...), api.ErrOrder},
	} {
		want(t, string(rune('a'+i)), optimal.Verify(p, x.r, x.l), x.e)
	}
	floor, e := optimal.Floor(s)
	good(t, "floor", e)
	for view, k := range floor {
		v := s.Table.Views[view]
		wanted := -1
		if v.Round == 1 {
			wanted = v.Proc
		}
		want(t, "floor", k, wanted)
	}
	all1 := problemOf(t, 1, "01 01")
	floor, e = optimal.Floor(systemOf(t, all1.Task, all1.Adversary, 1))
	want(t, "floor", all(slices.Max(floor), e), "[0 0]")
	no := problemOf(t, 1, "0 01, 01 1, 01 01")
	want(t, "floor", all(optimal.Floor(systemOf(t, no.Task, no.Adversary, 1))), "[[] 6]")
	wide := wideProblem(t)
	want(t, "floor", all(optimal.Floor(systemOf(t, wide.Task, wide.Adversary, 1))), "[[] 17]")
	want(t, "verify", optimal.Verify(wide, api.Rule{}, nil), api.ErrShape)
}

// P50.3: consequences.
func TestOptimalLaws(t *testing.T) {
	crash, _ := failure.Crash(3, 1)
	consensus, _ := library.Consensus(3, 2)
	approximate, _ := library.Approximate(2, 1)
	for i, p := range []api.Problem{
		{Task: consensus, Adversary: crash, Rounds: 2}, problemOf(t, 2, "0 01, 01 01"), {Task: calmTask(), Adversary: adversaryOf(t, 2, "01 01, 0 01 !0 > 1", "0 1 !0"), Rounds: 1}, {Task: approximate, Adversary: adversaryOf(t, 2, "0 01, 01 1, 01 01"), Rounds: 1},
	} {
		name := string(rune('a' + i))
		report, denials, e := optimal.Optimal(p)
		good(t, name, e)
		s := systemOf(t, p.Task, p.Adversary, p.Rounds)
		want(t, name, all(rule.Measure(s, report.Rule)), all(report.Worst, report.Total, api.OK))
		want(t, name, optimal.Verify(p, report.Rule, denials) == api.OK, report.Optimal)
		floor, e := optimal.Floor(s)
		good(t, name, e)
		_, other, _, _ := decide.Decide(p)
		if report.Optimal {
			want(t, name, all(rule.Earlier(s, report.Rule, other)), "[true 0]")
		}
		for e, x := range s.Executions {
			set, _ := execution.Obliged(s, e)
			own, _ := rule.Times(s, report.Rule, e)
			others, _ := rule.Times(s, other, e)
			for q, view := range x.Views[p.Rounds] {
				if set>>q&1 == 1 {
					want(t, name, own[q] >= floor[view] && others[q] >= floor[view], true)
					want(t, name, !report.Optimal || own[q] == floor[view], true)
				}
			}
		}
	}
}
