package tests

import (
	"slices"
	"testing"

	"roundtable/api"
	"roundtable/decide"
	"roundtable/machine"
)

// exampleRule is the rule of the example of layer 52: view 6 decides 1.
func exampleRule() api.Rule { return ruleOf(-1, -1, -1, -1, -1, -1, 1, -1) }

// exampleMachine is the machine of the example of layer 54.
func exampleMachine(t *testing.T) api.Machine {
	t.Helper()
	m, e := machine.Synthesize(exampleSystem(t), exampleRule())
	good(t, "machine", e)
	return m
}

type badMachine struct {
	m api.Machine
	e api.Errno
}

func badMachines(t *testing.T) []badMachine {
	changed := func(e api.Errno, change func(m *api.Machine)) badMachine {
		m := exampleMachine(t)
		change(&m)
		return badMachine{m, e}
	}
	return []badMachine{
		{api.Machine{}, api.ErrRange}, changed(api.ErrRange, func(m *api.Machine) { m.N = 6 }), changed(api.ErrRange, func(m *api.Machine) { m.Rounds = 7 }), changed(api.ErrRange, func(m *api.Machine) { m.Ins = 9 }), changed(api.ErrRange, func(m *api.Machine) { m.Outs = 0 }),
		changed(api.ErrShape, func(m *api.Machine) { m.First = m.First[1:] }), changed(api.ErrShape, func(m *api.Machine) { m.First[0] = nil }), changed(api.ErrShape, func(m *api.Machine) { m.Out = m.Out[1:] }), changed(api.ErrShape, func(m *api.Machine) { m.Out[1] = nil }),
		changed(api.ErrShape, func(m *api.Machine) { m.Symbols = nil }), changed(api.ErrShape, func(m *api.Machine) { m.Symbols[0] = nil }), changed(api.ErrShape, func(m *api.Machine) { m.Symbols[0][0] = nil }), changed(api.ErrShape, func(m *api.Machine) { m.Symbols[0][1][0] = []int{0} }), changed(api.ErrShape, func(m *api.Machine) { m.Symbols[0][0][0] = []int{0} }),
		changed(api.ErrMany, func(m *api.Machine) { m.Out[1][0] = make([]int, api.MaxViews) }), changed(api.ErrMany, func(m *api.Machine) { m.Steps = make([]api.Step, api.MaxSteps+1) }),
		changed(api.ErrRange, func(m *api.Machine) { m.First[0][1] = 1 }), changed(api.ErrRange, func(m *api.Machine) { m.First[0][1] = -2 }), changed(api.ErrRange, func(m *api.Machine) { m.Out[1][0][0] = 2 }), changed(api.ErrRange, func(m *api.Machine) { m.Symbols[0][0][1][0] = -1 }),
		changed(api.ErrRange, func(m *api.Machine) { m.Steps[0].Round = 1 }), changed(api.ErrRange, func(m *api.Machine) { m.Steps[0].Proc = 2 }), changed(api.ErrRange, func(m *api.Machine) { m.Steps[0].To = 1 }), changed(api.ErrForm, func(m *api.Machine) { m.Steps[0].Heard = [5]int{9, 0, 0, -1, -1} }),
		changed(api.ErrRange, func(m *api.Machine) { m.Steps[0].Heard[0] = 1 }), changed(api.ErrRange, func(m *api.Machine) { m.Steps[0].Heard[0] = -1 }), changed(api.ErrRange, func(m *api.Machine) { m.Steps[0].Heard[1] = -2 }), changed(api.ErrOrder, func(m *api.Machine) { m.Steps[1] = m.Steps[0] }),
	}
}

// P54.1: Check, Same, Size, Next and Play.
func TestMachineRuns(t *testing.T) {
	m := exampleMachine(t)
	want(t, "check", machine.Check(m), api.OK)
	want(t, "same", machine.Same(m, exampleMachine(t)), true)
	want(t, "same", machine.Same(api.Machine{First: [][]int{nil}}, api.Machine{First: [][]int{{}}, Steps: []api.Step{}}), true)
	want(t, "size", all(machine.Size(m)), "[6 2 4 0]")
	want(t, "next", all(machine.Next(m, 0, 1, [5]int{0, 1, -1, -1, -1})), "[1 0]")
	want(t, "next", all(machine.Next(m, 0, 1, [5]int{0, 1})), "[0 20]")
	want(t, "next", all(machine.Next(m, 1, 1, [5]int{})), "[0 2]")
	want(t, "next", all(machine.Next(m, 0, 2, [5]int{})), "[0 2]")
	both := wordOf(t, 2, "01 01")
	want(t, "play", all(machine.Play(m, []int{0, 1}, both)), "[[[0 1] [0 1]] 0]")
	want(t, "play", all(machine.Play(m, []int{0}, nil)), "[[] 15]")
	want(t, "play", all(machine.Play(m, []int{0, 2}, nil)), "[[] 2]")
	want(t, "play", all(machine.Play(m, []int{0, 1}, wordOf(t, 3, "0 1 2"))), "[[] 22]")
	want(t, "play", all(machine.Play(m, []int{0, 1}, nil)), "[[] 15]")
	want(t, "play", all(machine.Play(m, []int{1, 1}, both)), "[[] 20]")
	want(t, "play", all(machine.Play(m, []int{0, 1}, wordOf(t, 2, "0 1"))), "[[] 20]")
	full := api.Machine{N: 1, Rounds: 0, Ins: 8, Outs: 8, First: [][]int{{0, 1, 2, 3, 4, 5, 6, api.MaxViews - 1}}, Out: [][][]int{{make([]int, api.MaxViews)}}}
	want(t, "full", machine.Check(full), api.OK)
	large := api.Machine{N: 5, Rounds: 6, Ins: 1, Outs: 1, First: [][]int{{-1}, {-1}, {-1}, {-1}, {-1}}}
	for range 6 {
		large.Out = append(large.Out, make([][]int, 5))
		row := make([][][]int, 5)
		for p := range row {
			row[p] = make([][]int, 5)
		}
		large.Symbols = append(large.Symbols, row)
	}
	large.Out = append(large.Out, make([][]int, 5))
	want(t, "large", machine.Check(large), api.OK)
	for i, x := range badMachines(t) {
		name := string(rune('A' + i))
		want(t, name, machine.Check(x.m), x.e)
		want(t, name, machine.Same(m, x.m), false)
		want(t, name, all(machine.Size(x.m)), all(0, 0, 0, x.e))
		want(t, name, all(machine.Next(x.m, -1, 0, [5]int{})), all(0, x.e))
		want(t, name, all(machine.Play(x.m, nil, nil)), all([]int{}, x.e))
		want(t, name, machine.Verify(x.m, exampleSystem(t), exampleRule()), x.e)
	}
}

// P54.2: Synthesize and Verify.
func TestMachineSynthesize(t *testing.T) {
	s, r := exampleSystem(t), exampleRule()
	m := exampleMachine(t)
	want(t, "machine", m, "{2 1 2 2 [[0 -1] [0 1]] [[[[] [0]] [[0 0] []]]] [{0 0 [0 -1 -1 -1 -1] 0} {0 0 [0 0 -1 -1 -1] 0} {0 1 [0 0 -1 -1 -1] 0} {0 1 [0 1 -1 -1 -1] 1}] [[[-1] [-1 -1]] [[-1] [-1 1]]]}")
	want(t, "verify", machine.Verify(m, s, r), api.OK)
	want(t, "verify", machine.Verify(m, s, nobody(s)), api.ErrProof)
	want(t, "verify", machine.Verify(m, s, ruleOf(0)), api.ErrShape)
	other := systemOf(t, consensusOf(t, 0, 1), adversaryOf(t, 2, "0 01, 01 01"), 2)
	want(t, "mismatch", machine.Verify(m, other, nobody(other)), api.ErrMismatch)
	for _, numbers := range [][3]int{{1, 2, 2}, {2, 3, 2}, {2, 2, 3}} {
		x := api.Task{N: numbers[0], Ins: numbers[1], Outs: numbers[2], Cases: []api.Case{{In: make([]int, numbers[0]), Out: [][]int{make([]int, numbers[0])}}}}
		y := systemOf(t, x, adversaryOf(t, numbers[0], []string{"", "0", "0 1"}[numbers[0]]), 1)
		want(t, "mismatch", machine.Verify(m, y, nobody(y)), api.ErrMismatch)
	}
	more := systemOf(t, consensusOf(t, 0, 1, 2), adversaryOf(t, 2, "0 01, 01 01"), 1)
	silent, _ := machine.Synthesize(s, nobody(s))
	want(t, "gap", machine.Verify(silent, more, nobody(more)), api.ErrGap)
	want(t, "synthesize", all(machine.Synthesize(s, ruleOf(0))), all(api.Machine{}, api.ErrShape))
	for _, x := range badSystems(t) {
		want(t, "synthesize", all(machine.Synthesize(x.s, r)), all(api.Machine{}, x.e))
		want(t, "verify", machine.Verify(api.Machine{}, x.s, r), x.e)
	}
}

// P54.3: consequences.
func TestMachineLaws(t *testing.T) {
	for _, s := range []api.System{exampleSystem(t), crashSystem(t, 2), lossySystem(t), systemOf(t, consensusOf(t, 0, 1, 2, 3), adversaryOf(t, 2, "0 01, 01 01"), 2), systemOf(t, consensusOf(t, 0, 1), adversaryOf(t, 2, "01 01"), 0)} {
		r := nobody(s)
		if verdict, early, _, _ := decide.Decide(s.Problem); verdict == api.VerdictYes {
			r = early
		}
		m, e := machine.Synthesize(s, r)
		good(t, "synthesize", e)
		want(t, "check", machine.Check(m), api.OK)
		want(t, "decides", machine.Verify(m, s, r), api.OK)
		states, _, _, _ := machine.Size(m)
		want(t, "states", states <= len(s.Table.Views), true)
		reached := map[[3]int]bool{}
		for _, x := range s.Executions {
			l, _ := machine.Play(m, s.Problem.Task.Cases[x.Case].In, x.Word)
			for k, row := range l {
				for p, state := range row {
					reached[[3]int{k, p, state}] = true
				}
			}
		}
		want(t, "reached", len(reached), states)
		for k := range m.Out {
			for p := range m.Out[k] {
				for state, out := range m.Out[k][p] {
					if state > 3 {
						continue
					}
					m.Out[k][p][state] = (out+2)%3 - 1
					if m.Out[k][p][state] == out {
						m.Out[k][p][state] = -1 - min(out, 0)
					}
					want(t, "other decision", m.Out[k][p][state] == out || machine.Verify(m, s, r) == api.ErrProof, true)
					m.Out[k][p][state] = out
				}
			}
		}
	}
	m := exampleMachine(t)
	for i := range m.First[1] {
		m.First[1][i] = 1 - m.First[1][i]
	}
	for i := range m.Steps {
		if m.Steps[i].Proc == 1 {
			m.Steps[i].Heard[1] = 1 - m.Steps[i].Heard[1]
		}
	}
	m.Steps[2], m.Steps[3] = m.Steps[3], m.Steps[2]
	slices.Reverse(m.Out[0][1])
	want(t, "renumbered", machine.Verify(m, exampleSystem(t), exampleRule()), api.OK)
}
