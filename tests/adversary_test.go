package tests

import (
	"slices"
	"strconv"
	"strings"
	"testing"

	"roundtable/adversary"
	"roundtable/api"
	"roundtable/round"
)

// adversaryOf makes an adversary of lists of rounds, one for each state, in any order, with commas between them; > and a state stand behind a round that does not lead to the same state.
func adversaryOf(t *testing.T, n int, states ...string) api.Adversary {
	t.Helper()
	a := api.Adversary{N: n}
	for s, text := range states {
		var l []api.Move
		for _, word := range strings.Split(text, ", ") {
			first, to, some := strings.Cut(word, " > ")
			m := api.Move{Round: wordOf(t, n, first)[0], To: s}
			if some {
				m.To, _ = strconv.Atoi(to)
			}
			l = append(l, m)
		}
		slices.SortFunc(l, func(x, y api.Move) int { return round.Compare(x.Round, y.Round) })
		a.States = append(a.States, l)
	}
	good(t, "adversary", adversary.Check(a))
	return a
}

// sketchAdversary writes an adversary as adversaryOf reads it, with the numbers of all states.
func sketchAdversary(a api.Adversary, e api.Errno) string {
	if e != api.OK {
		return "error " + strconv.Itoa(int(e))
	}
	var states []string
	for _, l := range a.States {
		var words []string
		for _, m := range l {
			text, _ := round.Format(a.N, []api.Round{m.Round})
			words = append(words, text+" > "+strconv.Itoa(m.To))
		}
		states = append(states, strings.Join(words, ", "))
	}
	return strings.Join(states, "; ")
}

type badAdversary struct {
	a api.Adversary
	e api.Errno
}

func badAdversaries(t *testing.T) []badAdversary {
	move := func(text string, to int) api.Move { return api.Move{Round: wordOf(t, 2, text)[0], To: to} }
	states := func(l ...[]api.Move) api.Adversary { return api.Adversary{N: 2, States: l} }
	complete := []api.Move{move("01 01", 0)}
	return []badAdversary{
		{api.Adversary{}, api.ErrRange}, {api.Adversary{N: 6}, api.ErrRange}, {states(), api.ErrMany}, {api.Adversary{N: 2, States: make([][]api.Move, 257)}, api.ErrMany}, {states(make([]api.Move, 4097)), api.ErrMany},
		{states(complete, nil), api.ErrDead}, {states([]api.Move{{}}), api.ErrRange}, {states([]api.Move{{Round: wordOf(t, 3, "0 1 2")[0], To: 5}}), api.ErrMismatch}, {states([]api.Move{move("01 01", 0), move("0 1", 9)}), api.ErrOrder},
		{states([]api.Move{move("01 01", 0), move("01 01", 0)}), api.ErrOrder}, {states([]api.Move{move("01 01", 1)}), api.ErrRange}, {states([]api.Move{move("01 01", -1)}), api.ErrRange}, {states([]api.Move{move("01 01", 0), move("01 01 !0", 0)}), api.ErrState},
		{states([]api.Move{move("01 01 !0", 1)}, complete), api.ErrState},
	}
}

// P16.1: Check, Step, State and Allows.
func TestAdversaryWords(t *testing.T) {
	a := adversaryOf(t, 2, "01 01, 0 1 > 1", "01 01")
	silent, complete := wordOf(t, 2, "0 1")[0], wordOf(t, 2, "01 01")[0]
	want(t, "step", all(adversary.Step(a, 0, silent)), "[1 0]")
	want(t, "step", all(adversary.Step(a, 1, silent)), "[0 25]")
	want(t, "step", all(adversary.Step(a, 2, silent)), "[0 6]")
	want(t, "step", all(adversary.Step(a, 0, api.Round{Faulty: -7})), "[0 25]")
	want(t, "state", all(adversary.State(a, []api.Round{complete, silent, complete})), "[1 0]")
	want(t, "state", all(adversary.State(a, nil)), "[0 0]")
	want(t, "state", all(adversary.State(a, []api.Round{silent, silent})), "[0 25]")
	want(t, "allows", all(adversary.Allows(a, []api.Round{complete, silent})), "[true 0]")
	full := api.Adversary{N: 2}
	for range api.MaxStates {
		full.States = append(full.States, []api.Move{{Round: silent, To: api.MaxStates - 1}, {Round: complete}})
	}
	want(t, "full", adversary.Check(full), api.OK)
	want(t, "allows", all(adversary.Allows(a, []api.Round{silent, silent})), "[false 0]")
	for _, x := range badAdversaries(t) {
		want(t, "check", adversary.Check(x.a), x.e)
		want(t, "step", all(adversary.Step(x.a, -1, silent)), all(0, x.e))
		want(t, "state", all(adversary.State(x.a, nil)), all(0, x.e))
		want(t, "allows", all(adversary.Allows(x.a, nil)), all(false, x.e))
	}
}

// P16.2: Count, Words, Reachable, Trim and Oblivious.
func TestAdversaryCounts(t *testing.T) {
	a := adversaryOf(t, 2, "01 01, 0 1 > 1", "01 01", "0 1 > 0")
	want(t, "count", all(adversary.Count(a, 2)), "[3 0]")
	want(t, "count", all(adversary.Count(a, 0)), "[1 0]")
	want(t, "count", all(adversary.Count(a, 7)), "[0 2]")
	want(t, "count", all(adversary.Count(a, -1)), "[0 2]")
	l, e := adversary.Words(a, 2)
	text := ""
	for _, w := range l {
		s, _ := round.Format(2, w)
		text += s + "; "
	}
	want(t, "words", all(text, e), "[0 1 / 01 01; 01 01 / 0 1; 01 01 / 01 01;  0]")
	want(t, "words", all(adversary.Words(a, 0)), "[[[]] 0]")
	want(t, "words", all(adversary.Words(a, 7)), "[[] 2]")
	want(t, "reachable", all(adversary.Reachable(a)), "[[0 1] 0]")
	want(t, "trim", sketchAdversary(adversary.Trim(a)), "0 1 > 1, 01 01 > 0; 01 01 > 1")
	want(t, "trim", sketchAdversary(adversary.Trim(adversaryOf(t, 2, "01 01 > 2", "0 1", "0 1 > 0"))), "01 01 > 1; 0 1 > 0")
	want(t, "oblivious", all(adversary.Oblivious(a)), "[false 0]")
	want(t, "oblivious", all(adversary.Oblivious(adversaryOf(t, 2, "01 01, 0 1 > 1", "01 01, 0 1 > 0", "0 1"))), "[true 0]")
	rounds := []string{"0 1 2", "0 01 2", "0 1 12", "0 1 02", "01 1 2", "02 1 2", "0 12 2", "012 1 2", "0 012 2", "0 1 012", "01 01 2"}
	wide := adversaryOf(t, 3, strings.Join(rounds, ", "))
	want(t, "limit", all(adversary.Words(wide, 4)), "[[] 17]")
	want(t, "limit", all(adversary.Count(wide, 6)), "[0 17]")
	want(t, "count", all(adversary.Count(wide, 5)), "[161051 0]")
	for _, x := range badAdversaries(t) {
		want(t, "count", all(adversary.Count(x.a, -1)), all(0, x.e))
		want(t, "words", all(adversary.Words(x.a, -1)), all([]int{}, x.e))
		want(t, "reachable", all(adversary.Reachable(x.a)), all([]int{}, x.e))
		want(t, "trim", all(adversary.Trim(x.a)), all(api.Adversary{}, x.e))
		want(t, "oblivious", all(adversary.Oblivious(x.a)), all(false, x.e))
	}
}

// P16.3: consequences.
func TestAdversaryLaws(t *testing.T) {
	a := adversaryOf(t, 2, "01 01, 0 1 > 1, 0 01 !0 > 3", "01 01 > 0, 01 1 > 1", "0 1 > 0", "01 01 !0, 0 1 !01 > 4", "0 1 !01")
	trimmed, e := adversary.Trim(a)
	good(t, "trim", e)
	want(t, "trimmed", sketchAdversary(adversary.Trim(trimmed)), sketchAdversary(trimmed, api.OK))
	var shorter [][]api.Round
	for k := range 6 {
		l, _ := adversary.Words(a, k)
		want(t, "count", all(adversary.Count(a, k)), all(len(l), api.OK))
		want(t, "same", all(adversary.Words(trimmed, k)), all(l, api.OK))
		for i, w := range l {
			want(t, "allows", all(adversary.Allows(a, w)), "[true 0]")
			want(t, "word", round.Word(2, w), api.OK)
			if i > 0 {
				want(t, "order", slices.CompareFunc(l[i-1], w, round.Compare), -1)
			}
			if k > 0 {
				want(t, "beginning", slices.ContainsFunc(shorter, func(v []api.Round) bool { return slices.Equal(v, w[:k-1]) }), true)
			}
		}
		shorter = l
	}
	free := adversaryOf(t, 2, "01 01, 0 1, 0 01")
	for k, number := range []int{1, 3, 9, 27} {
		want(t, "powers", all(adversary.Count(free, k)), all(number, api.OK))
	}
}
