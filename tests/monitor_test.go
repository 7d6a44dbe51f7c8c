package tests

import (
	"testing"

	"roundtable/api"
	"roundtable/decide"
	"roundtable/execution"
	"roundtable/library"
	"roundtable/machine"
	"roundtable/monitor"
	"roundtable/rule"
	"roundtable/simulate"
)

// P57.1: Verdict.
func TestMonitorVerdict(t *testing.T) {
	p := problemOf(t, 1, "0 01, 01 01")
	_, r, _, _ := decide.Decide(p)
	s := systemOf(t, p.Task, p.Adversary, 1)
	m, _ := machine.Synthesize(s, r)
	run := func(inputs []int, word string) api.Trace {
		x, e := simulate.Run(m, inputs, wordOf(t, 2, word))
		good(t, "run", e)
		return x
	}
	want(t, "none", all(monitor.Verdict(p, m, run([]int{0, 1}, "0 01"))), "[0 0]")
	x := run([]int{0, 1}, "0 01")
	x.Word[0].Faulty = 1
	want(t, "schedule", all(monitor.Verdict(p, m, x)), "[1 0]")
	x = run([]int{0, 1}, "0 01")
	x.Decisions[1], x.Times[1] = -1, -1
	want(t, "undecided", all(monitor.Verdict(p, m, x)), "[2 0]")
	x.Decisions[1], x.Times[1] = 1, 1
	want(t, "output", all(monitor.Verdict(p, m, x)), "[3 0]")
	x.Decisions[1] = 7
	want(t, "output", all(monitor.Verdict(p, m, x)), "[3 0]")
	x = run([]int{0, 1}, "0 01")
	x.States[1][1] += 5
	want(t, "trace", all(monitor.Verdict(p, m, x)), "[4 0]")
	short := x
	short.Word, short.States, short.Messages = nil, x.States[:1], nil
	short.Times = []int{0, 0}
	want(t, "schedule", all(monitor.Verdict(p, m, short)), "[1 0]")
	restricted := p
	restricted.Task = consensusOf(t, 0, 3)
	want(t, "case", all(monitor.Verdict(restricted, m, run([]int{0, 1}, "0 01"))), "[0 6]")
	three, _ := library.Consensus(2, 3)
	want(t, "mismatch", all(monitor.Verdict(api.Problem{Task: three, Adversary: p.Adversary, Rounds: 1}, m, api.Trace{})), "[0 22]")
	longer := p
	longer.Rounds = 2
	want(t, "mismatch", all(monitor.Verdict(longer, m, api.Trace{})), "[0 22]")
	for _, y := range badTraces(t) {
		want(t, "trace", all(monitor.Verdict(p, m, y.t)), all(0, y.e))
	}
	for _, y := range badProblems(t) {
		want(t, "problem", all(monitor.Verdict(y.p, api.Machine{}, api.Trace{})), all(0, y.e))
		want(t, "problem", all(monitor.Blame(y.p, nil, nil, nil)), all(0, 0, y.e))
	}
	for _, y := range badMachines(t) {
		want(t, "machine", all(monitor.Verdict(p, y.m, api.Trace{})), all(0, y.e))
	}
}

// P57.2: Blame and Word.
func TestMonitorBlame(t *testing.T) {
	p := problemOf(t, 1, "0 01, 01 01")
	for i, x := range []struct {
		inputs    []int
		word      string
		decisions []int
		kind, who int
	}{
		{[]int{0, 1}, "0 01", []int{0, 0}, 0, -1}, {[]int{0, 1}, "0 01", []int{0, 1}, 3, 1}, {[]int{0, 1}, "0 01", []int{0, -1}, 2, 1}, {[]int{0, 0}, "0 01", []int{1, 1}, 3, 0}, {[]int{0, 1}, "01 1", []int{-1, 1}, 1, -1}, {[]int{0, 1}, "none", []int{0, 0}, 1, -1},
		{[]int{0, 1}, "0 01 !0", []int{0, 0}, 1, -1}, {[]int{0, 1}, "01 01 / 01 01", []int{0, 0}, 1, -1}, {[]int{0, 1}, "0 01", []int{-1, -1}, 2, 0},
	} {
		want(t, string(rune('a'+i)), all(monitor.Blame(p, x.inputs, wordOf(t, 2, x.word), x.decisions)), all(x.kind, x.who, api.OK))
	}
	faulty := problemOf(t, 1, "0 01 !0 > 1, 01 01 !01 > 1", "0 1 !01")
	want(t, "faulty", all(monitor.Blame(faulty, []int{0, 1}, wordOf(t, 2, "0 01 !0"), []int{0, 1})), "[0 -1 0]")
	want(t, "faulty", all(monitor.Blame(faulty, []int{0, 1}, wordOf(t, 2, "01 01 !01"), []int{-1, -1})), "[0 -1 0]")
	want(t, "faulty", all(monitor.Blame(faulty, []int{0, 0}, wordOf(t, 2, "0 01 !0"), []int{0, 1})), "[3 1 0]")
	calm := api.Problem{Task: calmTask(), Adversary: p.Adversary, Rounds: 1}
	want(t, "calm", all(monitor.Blame(calm, []int{0, 1}, wordOf(t, 2, "0 01"), []int{0, 0})), "[3 0 0]")
	want(t, "none", all(monitor.Blame(p, []int{0, 2}, nil, nil)), "[0 0 6]")
	want(t, "shape", all(monitor.Blame(p, []int{0, 1}, nil, []int{0})), "[0 0 15]")
	want(t, "range", all(monitor.Blame(p, []int{0, 1}, nil, []int{0, 2})), "[0 0 2]")
	want(t, "range", all(monitor.Blame(p, []int{0, 1}, nil, []int{0, -2})), "[0 0 2]")
	for kind, text := range []string{"none", "schedule", "undecided", "output", "trace"} {
		want(t, "word", all(monitor.Word(kind)), all(text, api.OK))
	}
	want(t, "word", all(monitor.Word(5)), "[ 1]")
	want(t, "word", all(monitor.Word(-1)), "[ 1]")
}

// P57.3: consequences.
func TestMonitorLaws(t *testing.T) {
	for _, s := range []api.System{crashSystem(t, 2), crashSystem(t, 1), lossySystem(t), systemOf(t, calmTask(), adversaryOf(t, 2, "01 01, 0 01 !0 > 1", "0 1 !0"), 1)} {
		rules := []api.Rule{nobody(s)}
		if verdict, r, _, _ := decide.Decide(s.Problem); verdict == api.VerdictYes {
			rules = append(rules, r)
		}
		for _, r := range rules {
			m, _ := machine.Synthesize(s, r)
			bad := 0
			for i, x := range s.Executions {
				in := s.Problem.Task.Cases[x.Case].In
				trace, e := simulate.Run(m, in, x.Word)
				good(t, "run", e)
				kind, e := monitor.Verdict(s.Problem, m, trace)
				good(t, "verdict", e)
				if kind != api.ViolationNone {
					bad++
				}
				blame, who, _ := monitor.Blame(s.Problem, in, x.Word, trace.Decisions)
				want(t, "same", blame, kind)
				want(t, "who", who >= 0, kind == api.ViolationUndecided || kind == api.ViolationOutput)
				set, _ := execution.Obliged(s, i)
				for p := range trace.Decisions {
					if set>>p&1 == 0 {
						trace.Decisions[p] = -1
					}
				}
				want(t, "others", all(monitor.Blame(s.Problem, in, x.Word, trace.Decisions)), all(blame, who, api.OK))
			}
			ok, _, _ := rule.Solves(s, r)
			want(t, "solves", ok, bad == 0)
		}
	}
}
