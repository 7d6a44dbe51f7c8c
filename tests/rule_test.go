package tests

import (
	"testing"

	"roundtable/api"
	"roundtable/encode"
	"roundtable/execution"
	"roundtable/rule"
	"roundtable/task"
)

func ruleOf(out ...int) api.Rule { return api.Rule{Out: out} }

// P45.1: Check, Early, Decisions and Times.
func TestRuleTimes(t *testing.T) {
	s := exampleSystem(t)
	zero := ruleOf(0, 0, 0, 0, 0, 0, 0, 0)
	want(t, "check", rule.Check(s, zero), api.OK)
	want(t, "check", rule.Check(s, ruleOf(-1, -1, 1, 0, -1, -1, -1, 0)), api.OK)
	for _, x := range []struct {
		r api.Rule
		e api.Errno
	}{
		{ruleOf(0), api.ErrShape}, {ruleOf(), api.ErrShape}, {ruleOf(-1, -1, 2, 0, -1, -1, -1, 0), api.ErrRange}, {ruleOf(-1, -1, -2, 0, -1, -1, -1, 0), api.ErrRange}, {ruleOf(0, -1, 1, 9, -1, -1, -1, 0), api.ErrState}, {ruleOf(0, -1, -1, 0, -1, -1, -1, 0), api.ErrState},
	} {
		want(t, "check", rule.Check(s, x.r), x.e)
		want(t, "decisions", all(rule.Decisions(s, x.r, -1)), all([]int{}, x.e))
		want(t, "times", all(rule.Times(s, x.r, -1)), all([]int{}, x.e))
		want(t, "solves", all(rule.Solves(s, x.r)), all(false, 0, x.e))
		want(t, "earlier", all(rule.Earlier(s, x.r, ruleOf())), all(false, x.e))
		want(t, "earlier", all(rule.Earlier(s, zero, x.r)), all(false, x.e))
		want(t, "measure", all(rule.Measure(s, x.r)), all(0, 0, x.e))
	}
	want(t, "early", all(rule.Early(s, ruleOf(9, 9, 0, 0, 0, -5, 0, 0))), all(zero, api.OK))
	want(t, "early", all(rule.Early(s, ruleOf(9, 9, 0, 0, 0, -5, 0, 1))), "[{[-1 0 0 0 0 0 0 1]} 0]")
	want(t, "early", all(rule.Early(s, ruleOf(0, 0))), "[{[]} 15]")
	want(t, "early", all(rule.Early(s, ruleOf(0, 0, 0, 0, 0, 0, 0, 2))), "[{[]} 2]")
	want(t, "early", all(rule.Early(s, ruleOf(0, 0, 0, -1, 7, 0, 0, 0))), "[{[]} 20]")
	want(t, "early", all(rule.Early(s, ruleOf(0, 0, 0, -2, -1, 0, 0, 0))), "[{[]} 2]")
	faulty := systemOf(t, consensusOf(t, 0), adversaryOf(t, 2, "0 01 !0 > 1, 01 01", "0 1 !0"), 1)
	want(t, "not continued", all(rule.Early(faulty, ruleOf(-1, -1, -1, 0, 1))), "[{[1 0 1 0 1]} 0]")
	alone := systemOf(t, consensusOf(t, 0), adversaryOf(t, 2, "0 1 !0"), 1)
	want(t, "not continued", all(rule.Early(alone, ruleOf(-1, -1, 0, 0))), "[{[-1 0 -1 0]} 0]")
	r := ruleOf(-1, 0, 0, 0, 0, 0, 0, 1)
	want(t, "decisions", all(rule.Decisions(s, r, 3)), "[[1 0] 0]")
	want(t, "times", all(rule.Times(s, r, 3)), "[[1 0] 0]")
	want(t, "times", all(rule.Times(s, ruleOf(-1, -1, -1, 0, -1, -1, -1, -1), 0)), "[[-1 1] 0]")
	want(t, "decisions", all(rule.Decisions(s, ruleOf(-1, -1, -1, 0, -1, -1, -1, -1), 0)), "[[-1 0] 0]")
	want(t, "decisions", all(rule.Decisions(s, r, 4)), "[[] 6]")
	want(t, "times", all(rule.Times(s, r, -1)), "[[] 6]")
	for _, x := range badSystems(t) {
		want(t, "check", rule.Check(x.s, zero), x.e)
		want(t, "early", all(rule.Early(x.s, ruleOf())), all(api.Rule{}, x.e))
		want(t, "decisions", all(rule.Decisions(x.s, ruleOf(), 0)), all([]int{}, x.e))
		want(t, "times", all(rule.Times(x.s, ruleOf(), 0)), all([]int{}, x.e))
		want(t, "solves", all(rule.Solves(x.s, ruleOf())), all(false, 0, x.e))
		want(t, "earlier", all(rule.Earlier(x.s, ruleOf(), ruleOf())), all(false, x.e))
		want(t, "measure", all(rule.Measure(x.s, ruleOf())), all(0, 0, x.e))
	}
}

// P45.2: Solves, Earlier and Measure.
func TestRuleSolves(t *testing.T) {
	s := exampleSystem(t)
	zero := ruleOf(0, 0, 0, 0, 0, 0, 0, 0)
	late := ruleOf(-1, -1, 0, 0, 0, -1, 0, 0)
	want(t, "solves", all(rule.Solves(s, zero)), "[true 0 0]")
	want(t, "solves", all(rule.Solves(s, late)), "[true 0 0]")
	want(t, "solves", all(rule.Solves(s, ruleOf(-1, 0, 0, 0, 0, 0, 0, 1))), "[false 3 0]")
	want(t, "solves", all(rule.Solves(s, ruleOf(-1, -1, -1, 0, 0, -1, 0, 0))), "[false 0 0]")
	want(t, "earlier", all(rule.Earlier(s, zero, late)), "[true 0]")
	want(t, "earlier", all(rule.Earlier(s, late, zero)), "[false 0]")
	want(t, "earlier", all(rule.Earlier(s, ruleOf(-1, -1, -1, -1, -1, -1, -1, -1), late)), "[false 0]")
	want(t, "earlier", all(rule.Earlier(s, late, ruleOf(-1, -1, -1, -1, -1, -1, -1, -1))), "[true 0]")
	want(t, "measure", all(rule.Measure(s, zero)), "[0 0 0]")
	want(t, "measure", all(rule.Measure(s, late)), "[1 8 0]")
	want(t, "measure", all(rule.Measure(s, ruleOf(-1, 0, 0, 0, 0, 0, 0, 1))), "[1 4 0]")
	want(t, "measure", all(rule.Measure(s, ruleOf(-1, -1, -1, 0, 0, -1, 0, 0))), "[0 0 20]")
	faulty := systemOf(t, consensusOf(t, 0), adversaryOf(t, 2, "0 01 !0 > 1, 01 01", "0 1 !0"), 1)
	want(t, "faulty", all(rule.Solves(faulty, ruleOf(-1, 0, -1, 0, 0))), "[true 0 0]")
	want(t, "faulty", all(rule.Measure(faulty, ruleOf(-1, 0, -1, 0, 0))), "[1 1 0]")
	want(t, "faulty", all(rule.Measure(faulty, ruleOf(-1, -1, -1, 0, 0))), "[1 3 0]")
	want(t, "faulty", all(rule.Earlier(faulty, ruleOf(-1, 0, -1, 0, 0), ruleOf(-1, 0, 1, 0, 0))), "[true 0]")
}

// P45.3: consequences.
func TestRuleLaws(t *testing.T) {
	s := crashSystem(t, 1)
	domains, _ := encode.Domains(s)
	relevant, _ := execution.Relevant(s)
	var random source
	var rules []api.Rule
	for range 20 {
		var r api.Rule
		for view := range s.Table.Views {
			r.Out = append(r.Out, -1)
			if d := domains[view]; len(d) > 0 {
				r.Out[view] = d[random.below(len(d))]
			}
		}
		early, e := rule.Early(s, r)
		good(t, "early", e)
		want(t, "well-formed", rule.Check(s, early), api.OK)
		for _, view := range relevant {
			want(t, "values", early.Out[view], r.Out[view])
		}
		want(t, "earlier", all(rule.Earlier(s, early, r)), "[true 0]")
		solves := true
		for i, x := range s.Executions {
			set, _ := execution.Obliged(s, i)
			outs, _ := rule.Decisions(s, early, i)
			ok, _ := task.Permitted(s.Problem.Task, x.Case, 7-set, outs)
			solves = solves && ok
		}
		is, _, _ := rule.Solves(s, early)
		want(t, "solves", is, solves)
		rules = append(rules, early, r)
	}
	for _, a := range rules {
		want(t, "reflexive", all(rule.Earlier(s, a, a)), "[true 0]")
		for _, b := range rules {
			if ok, _ := rule.Earlier(s, a, b); ok {
				wa, ta, ea := rule.Measure(s, a)
				wb, tb, eb := rule.Measure(s, b)
				want(t, "measure", ea != api.OK || eb != api.OK || wa <= wb && ta <= tb, true)
			}
		}
	}
}
