package tests

import (
	"testing"

	"roundtable/api"
	"roundtable/decide"
	"roundtable/execution"
	"roundtable/graph"
	"roundtable/machine"
	"roundtable/monitor"
	"roundtable/rule"
	"roundtable/search"
	"roundtable/simulate"
)

// leastProblem is the problem of the examples of layer 58, with a machine by which each process decides the least input that it knows, after the round.
func leastProblem(t *testing.T) (api.Problem, api.Machine) {
	t.Helper()
	same := api.Task{N: 2, Ins: 2, Outs: 2}
	for k := range 4 {
		same.Cases = append(same.Cases, api.Case{In: []int{k / 2, k % 2}, Out: [][]int{{0, 0}, {1, 1}}})
	}
	p := api.Problem{Task: same, Adversary: adversaryOf(t, 2, "0 01, 01 1, 01 01"), Rounds: 1}
	m := api.Machine{N: 2, Rounds: 1, Ins: 2, Outs: 2, First: [][]int{{0, 1}, {0, 1}}, Out: [][][]int{{{-1, -1}, {-1, -1}}, {{0, 1}, {0, 1}}}, Symbols: [][][][]int{{{nil, {0, 1}}, {{0, 1}, nil}}}}
	for q := range 2 {
		for own := range 2 {
			for other := -1; other < 2; other++ {
				heard := [5]int{-1, -1, -1, -1, -1}
				heard[q], heard[1-q] = own, other
				to := own
				if other >= 0 {
					to = min(own, other)
				}
				m.Steps = append(m.Steps, api.Step{Proc: q, Heard: heard, To: to})
			}
		}
	}
	sortSteps(m.Steps)
	good(t, "machine", machine.Check(m))
	return p, m
}

// sortSteps sorts the steps of one round.
func sortSteps(l []api.Step) {
	less := func(s, t api.Step) bool {
		if s.Proc != t.Proc {
			return s.Proc < t.Proc
		}
		for i := range s.Heard {
			if s.Heard[i] != t.Heard[i] {
				return s.Heard[i] < t.Heard[i]
			}
		}
		return false
	}
	for i := range l {
		for k := i; k > 0 && less(l[k], l[k-1]); k-- {
			l[k], l[k-1] = l[k-1], l[k]
		}
	}
}

func playOf(t *testing.T, word string, inputs ...int) search.Play {
	t.Helper()
	return search.Play{Inputs: inputs, Word: wordOf(t, len(inputs), word)}
}

// P58.1: Worst, Violation and Neighbors.
func TestSearchViolations(t *testing.T) {
	p, m := leastProblem(t)
	x, kind, ok, e := search.Violation(p, m)
	want(t, "violation", all(x.Inputs, x.Word, kind, ok, e), all([]int{0, 1}, wordOf(t, 2, "01 1"), api.ViolationOutput, true, api.OK))
	want(t, "neighbors", all(search.Neighbors(p, playOf(t, "0 01", 1, 0))), all([]search.Play{playOf(t, "01 01", 1, 0), playOf(t, "0 01", 0, 0)}, api.OK))
	want(t, "neighbors", all(search.Neighbors(p, playOf(t, "01 01", 0, 0))), "[[] 0]")
	want(t, "neighbors", all(search.Neighbors(p, playOf(t, "01 01", 0, 2))), "[[] 6]")
	want(t, "neighbors", all(search.Neighbors(p, playOf(t, "0 1", 0, 1))), "[[] 25]")
	want(t, "neighbors", all(search.Neighbors(p, playOf(t, "none", 0, 1))), "[[] 25]")
	want(t, "neighbors", all(search.Neighbors(p, playOf(t, "01 01 / 01 01", 0, 1))), "[[] 25]")
	faulty := api.Problem{Task: p.Task, Adversary: adversaryOf(t, 2, "0 1 !01 > 1, 0 01 !0 > 1, 0 01 !01 > 1, 01 1 !1 > 2, 01 01 > 1", "01 01 !01", "0 1 !1"), Rounds: 2}
	want(t, "faulty", all(search.Neighbors(faulty, playOf(t, "0 1 !01 / 01 01 !01", 0, 0))), all([]search.Play{playOf(t, "0 01 !0 / 01 01 !01", 0, 0), playOf(t, "0 01 !01 / 01 01 !01", 0, 0), playOf(t, "01 01 / 01 01 !01", 0, 0)}, api.OK))
	w, time, e := search.Worst(p, m)
	want(t, "worst", all(w.Inputs, w.Word, time, e), all([]int{0, 0}, wordOf(t, 2, "0 01"), 1, api.OK))
	m.Out[1][0][1] = -1
	w, time, e = search.Worst(p, m)
	want(t, "undecided", all(w.Inputs, w.Word, time, e), all([]int{1, 0}, wordOf(t, 2, "0 01"), 2, api.OK))
	x, kind, ok, e = search.Violation(p, m)
	want(t, "undecided", all(x.Inputs, kind, ok, e), "[[0 1] 3 true 0]")
	m.First[0][0] = -1
	want(t, "gap", all(search.Worst(p, m)), all(api.Trace{}, 0, api.ErrGap))
	x, kind, ok, e = search.Violation(p, m)
	want(t, "no trace", all(x.Inputs, kind, ok, e), "[[1 0] 2 true 0]")
	solved := problemOf(t, 1, "0 01, 01 01")
	_, r, _, _ := decide.Decide(solved)
	right, _ := machine.Synthesize(systemOf(t, solved.Task, solved.Adversary, 1), r)
	want(t, "none", all(search.Violation(solved, right)), all(api.Trace{}, 0, false, api.OK))
	idle := problemOf(t, 1, "0 1 !01")
	silent, _ := machine.Synthesize(systemOf(t, idle.Task, idle.Adversary, 1), nobody(systemOf(t, idle.Task, idle.Adversary, 1)))
	_, time, e = search.Worst(idle, silent)
	want(t, "nobody", all(time, e), "[0 0]")
	large := largeProblem(t)
	big := api.Machine{N: 3, Rounds: 2, Ins: 4, Outs: 4}
	for range 3 {
		big.First = append(big.First, []int{-1, -1, -1, -1})
		big.Out = append(big.Out, make([][]int, 3))
	}
	big.Symbols = [][][][]int{{make([][]int, 3), make([][]int, 3), make([][]int, 3)}, {make([][]int, 3), make([][]int, 3), make([][]int, 3)}}
	want(t, "limit", all(search.Worst(large, big)), all(api.Trace{}, 0, api.ErrLimit))
	want(t, "limit", all(search.Violation(large, big)), all(api.Trace{}, 0, false, api.ErrLimit))
	for _, y := range badProblems(t) {
		want(t, "worst", all(search.Worst(y.p, api.Machine{})), all(api.Trace{}, 0, y.e))
		want(t, "violation", all(search.Violation(y.p, api.Machine{})), all(api.Trace{}, 0, false, y.e))
		want(t, "neighbors", all(search.Neighbors(y.p, search.Play{})), all([]int{}, y.e))
		want(t, "shrink", all(search.Shrink(y.p, api.Machine{}, search.Play{})), all(search.Play{}, y.e))
		want(t, "minimal", all(search.Minimal(y.p, api.Machine{}, search.Play{})), all(false, y.e))
	}
	bad := append(badMachines(t), badMachine{big, api.ErrMismatch})
	for _, change := range []func(m *api.Machine){
		func(m *api.Machine) { m.Outs = 3 }, func(m *api.Machine) { m.Ins, m.First = 3, [][]int{{0, 0, 0}, {0, 0, 0}} },
		func(m *api.Machine) { m.Rounds, m.Out, m.Symbols, m.Steps = 0, m.Out[:1], nil, nil },
	} {
		_, other := leastProblem(t)
		change(&other)
		bad = append(bad, badMachine{other, api.ErrMismatch})
	}
	for _, y := range bad {
		want(t, "worst", all(search.Worst(p, y.m)), all(api.Trace{}, 0, y.e))
		want(t, "violation", all(search.Violation(p, y.m)), all(api.Trace{}, 0, false, y.e))
		want(t, "shrink", all(search.Shrink(p, y.m, search.Play{})), all(search.Play{}, y.e))
		want(t, "minimal", all(search.Minimal(p, y.m, search.Play{})), all(false, y.e))
	}
}

// P58.2: Shrink and Minimal.
func TestSearchShrink(t *testing.T) {
	p, m := leastProblem(t)
	first := playOf(t, "01 1", 0, 1)
	want(t, "minimal", all(search.Minimal(p, m, first)), "[true 0]")
	want(t, "shrink", all(search.Shrink(p, m, first)), all(first, api.OK))
	for x, e := range map[string]api.Errno{"01 01": api.ErrState, "0 1": api.ErrSchedule, "none": api.ErrSchedule} {
		want(t, x, all(search.Shrink(p, m, playOf(t, x, 0, 1))), all(search.Play{}, e))
		want(t, x, all(search.Minimal(p, m, playOf(t, x, 0, 1))), all(false, e))
	}
	want(t, "none", all(search.Shrink(p, m, playOf(t, "01 01", 0, 2))), all(search.Play{}, api.ErrNone))
	m.Out[1] = [][]int{{-1, -1}, {-1, -1}}
	want(t, "shrink", all(search.Shrink(p, m, playOf(t, "0 01", 1, 1))), all(playOf(t, "01 01", 0, 0), api.OK))
	want(t, "minimal", all(search.Minimal(p, m, playOf(t, "01 01", 0, 1))), "[false 0]")
}

// P58.3: consequences.
func TestSearchLaws(t *testing.T) {
	for _, s := range []api.System{crashSystem(t, 2), crashSystem(t, 1), lossySystem(t)} {
		p := s.Problem
		verdict, r, _, _ := decide.Decide(p)
		if verdict != api.VerdictYes {
			r = nobody(s)
		}
		m, _ := machine.Synthesize(s, r)
		_, time, e := search.Worst(p, m)
		good(t, "worst", e)
		x, kind, found, e := search.Violation(p, m)
		good(t, "violation", e)
		want(t, "found", found, verdict == api.VerdictNo)
		if !found {
			worst, _, _ := rule.Measure(s, r)
			want(t, "time", time, worst)
			continue
		}
		want(t, "kind", all(monitor.Verdict(p, m, x)), all(kind, api.OK))
		for i := 0; i < len(s.Executions); i += 1 + len(s.Executions)/8 {
			y := search.Play{Inputs: p.Task.Cases[s.Executions[i].Case].In, Word: s.Executions[i].Word}
			least, e := search.Shrink(p, m, y)
			if set, _ := execution.Obliged(s, i); set == 0 {
				continue
			}
			good(t, "shrink", e)
			want(t, "minimal", all(search.Minimal(p, m, least)), "[true 0]")
			for k, round := range least.Word {
				want(t, "edges", all(graph.Inside(y.Word[k].Graph, round.Graph)), "[true 0]")
			}
			for q, input := range least.Inputs {
				want(t, "inputs", input <= y.Inputs[q], true)
			}
			trace, _ := simulate.Run(m, least.Inputs, least.Word)
			v, _ := monitor.Verdict(p, m, trace)
			want(t, "violation", v != api.ViolationNone, true)
		}
	}
}
