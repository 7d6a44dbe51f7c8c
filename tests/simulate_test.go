package tests

import (
	"strings"
	"testing"

	"roundtable/api"
	"roundtable/decide"
	"roundtable/machine"
	"roundtable/rule"
	"roundtable/simulate"
	"roundtable/wire"
)

// exampleTrace is the trace of the examples of layer 56.
func exampleTrace(t *testing.T) api.Trace {
	t.Helper()
	x, e := simulate.Run(exampleMachine(t), []int{0, 1}, wordOf(t, 2, "01 01"))
	good(t, "run", e)
	return x
}

type badTrace struct {
	t api.Trace
	e api.Errno
}

func badTraces(t *testing.T) []badTrace {
	changed := func(e api.Errno, change func(x *api.Trace)) badTrace {
		x := exampleTrace(t)
		change(&x)
		return badTrace{x, e}
	}
	return []badTrace{
		{api.Trace{}, api.ErrRange}, changed(api.ErrRange, func(x *api.Trace) { x.Inputs = make([]int, 6) }), changed(api.ErrRange, func(x *api.Trace) { x.Inputs[0] = 8 }), changed(api.ErrRange, func(x *api.Trace) { x.Inputs[0] = -1 }), changed(api.ErrMismatch, func(x *api.Trace) { x.Inputs = []int{0} }),
		changed(api.ErrRange, func(x *api.Trace) { x.Word[0].Faulty = 4 }), changed(api.ErrMany, func(x *api.Trace) {
			for range 6 {
				x.Word = append(x.Word, x.Word[0])
			}
		}), changed(api.ErrShape, func(x *api.Trace) { x.States = x.States[1:] }), changed(api.ErrShape, func(x *api.Trace) { x.States[1] = []int{0} }), changed(api.ErrRange, func(x *api.Trace) { x.States[1][0] = -1 }), changed(api.ErrRange, func(x *api.Trace) { x.States[1][0] = api.MaxNumber + 1 }),
		changed(api.ErrShape, func(x *api.Trace) { x.Messages = x.Messages[1:] }), changed(api.ErrOrder, func(x *api.Trace) { x.Messages[0].From = 1 }), changed(api.ErrOrder, func(x *api.Trace) { x.Messages[0], x.Messages[1] = x.Messages[1], x.Messages[0] }), changed(api.ErrCorrupt, func(x *api.Trace) { x.Messages[0].Bytes = "" }),
		changed(api.ErrCorrupt, func(x *api.Trace) { x.Messages[0].Bytes = "\x00\x00\x01\x00\x00\x08" }), changed(api.ErrMismatch, func(x *api.Trace) { x.Messages[0].Bytes = x.Messages[1].Bytes }), changed(api.ErrShape, func(x *api.Trace) { x.Decisions = nil }), changed(api.ErrShape, func(x *api.Trace) { x.Times = []int{1} }),
		changed(api.ErrRange, func(x *api.Trace) { x.Times[1] = 2 }), changed(api.ErrRange, func(x *api.Trace) { x.Decisions[1] = 8 }), changed(api.ErrRange, func(x *api.Trace) { x.Decisions[1] = -2 }), changed(api.ErrForm, func(x *api.Trace) { x.Decisions[1] = -1 }), changed(api.ErrForm, func(x *api.Trace) { x.Decisions[0] = 0 }),
	}
}

// P56.1: Run and Check.
func TestSimulateRun(t *testing.T) {
	m := exampleMachine(t)
	x := exampleTrace(t)
	want(t, "states", x.States, "[[0 1] [0 1]]")
	want(t, "messages", x.Messages, []api.Message{{Round: 0, From: 0, To: 1, Bytes: "\x00\x00\x01\x00\x00\x07"}, {Round: 0, From: 1, To: 0, Bytes: "\x00\x01\x00\x00\x00\x06"}})
	want(t, "decisions", all(x.Decisions, x.Times, x.Inputs, len(x.Word)), "[[-1 1] [-1 1] [0 1] 1]")
	want(t, "check", simulate.Check(x), api.OK)
	one, e := simulate.Run(m, []int{0, 0}, wordOf(t, 2, "0 01"))
	want(t, "one", all(one.Messages, one.Decisions, e), all([]api.Message{{Round: 0, From: 0, To: 1, Bytes: "\x00\x00\x01\x00\x00\x07"}}, []int{-1, -1}, api.OK))
	want(t, "error", all(simulate.Run(m, []int{0}, nil)), all(api.Trace{}, api.ErrShape))
	want(t, "error", all(simulate.Run(m, []int{1, 1}, wordOf(t, 2, "0 01"))), all(api.Trace{}, api.ErrGap))
	five := api.Trace{Inputs: []int{0, 1, 7, 3, 0}, States: [][]int{{0, 1, 2, 3, api.MaxNumber}}, Decisions: []int{0, -1, 7, -1, 0}, Times: []int{0, -1, 0, -1, 0}}
	want(t, "five", simulate.Check(five), api.OK)
	six := api.Trace{Inputs: []int{0}, Word: wordOf(t, 1, "0 / 0 / 0 / 0 / 0 / 0"), States: [][]int{{0}, {0}, {0}, {0}, {0}, {0}, {0}}, Decisions: []int{1}, Times: []int{6}}
	want(t, "six", simulate.Check(six), api.OK)
	for i, bad := range badTraces(t) {
		name := string(rune('A' + i))
		want(t, name, simulate.Check(bad.t), bad.e)
		want(t, name, simulate.Replay(m, bad.t), bad.e)
		want(t, name, all(simulate.Bytes(bad.t)), all(0, bad.e))
		want(t, name, all(simulate.Format(bad.t)), all("", bad.e))
	}
	for _, bad := range badMachines(t) {
		want(t, "run", all(simulate.Run(bad.m, nil, nil)), all(api.Trace{}, bad.e))
		want(t, "replay", simulate.Replay(bad.m, api.Trace{}), bad.e)
	}
}

// P56.2: Replay, Bytes and Format.
func TestSimulateFormat(t *testing.T) {
	m := exampleMachine(t)
	x := exampleTrace(t)
	want(t, "replay", simulate.Replay(m, x), api.OK)
	want(t, "bytes", all(simulate.Bytes(x)), "[12 0]")
	want(t, "format", all(simulate.Format(x)), all("inputs 0 1\nstates 0 1\nround 1: 01 01\nfrom 0 to 1: 000001000007\nfrom 1 to 0: 000100000006\nstates 0 1\nprocess 0 does not decide\nprocess 1 decides 1 at 1\n", api.OK))
	zero := api.Trace{Inputs: []int{3}, States: [][]int{{4}}, Decisions: []int{0}, Times: []int{0}}
	want(t, "format", all(simulate.Format(zero)), all("inputs 3\nstates 4\nprocess 0 decides 0 at 0\n", api.OK))
	body := "\x00\x00\x01" + strings.Repeat("\x00", api.MaxText/2)
	x.Messages[0].Bytes = sealed(body)
	want(t, "form", simulate.Check(x), api.OK)
	want(t, "long", all(simulate.Format(x)), all("", api.ErrLong))
	want(t, "other", simulate.Replay(m, x), api.ErrProof)
	x = exampleTrace(t)
	x.Inputs[0] = 1
	want(t, "gap", simulate.Replay(m, x), api.ErrGap)
	x.Inputs[0] = 7
	want(t, "range", simulate.Replay(m, x), api.ErrRange)
}

// P56.3: consequences.
func TestSimulateLaws(t *testing.T) {
	for _, s := range []api.System{exampleSystem(t), crashSystem(t, 2), systemOf(t, consensusOf(t, 0, 1, 2, 3), adversaryOf(t, 2, "0 01, 01 01"), 2)} {
		_, r, _, e := decide.Decide(s.Problem)
		good(t, "decide", e)
		m, _ := machine.Synthesize(s, r)
		for i := 0; i < len(s.Executions); i += 1 + len(s.Executions)/50 {
			e := s.Executions[i]
			x, err := simulate.Run(m, s.Problem.Task.Cases[e.Case].In, e.Word)
			good(t, "run", err)
			want(t, "check", simulate.Check(x), api.OK)
			want(t, "replay", simulate.Replay(m, x), api.OK)
			times, _ := rule.Times(s, r, i)
			decisions, _ := rule.Decisions(s, r, i)
			want(t, "rule", all(x.Times, x.Decisions), all(times, decisions))
			for _, y := range x.Messages {
				want(t, "decode", all(wire.Decode(m, y.Round, y.From, y.To, y.Bytes)), all(m.Symbols[y.Round][y.From][y.To][x.States[y.Round][y.From]], api.OK))
			}
			x.States[len(x.States)-1][0]++
			want(t, "state", simulate.Replay(m, x), api.ErrProof)
			x.States[len(x.States)-1][0]--
			x.Decisions[0] = 1 - x.Decisions[0]
			want(t, "decision", simulate.Replay(m, x) != api.OK, true)
		}
	}
}
