// Package automaton builds adversaries from states of any kind, numbered in the order in which they are found.
package automaton

import (
	"iter"
	"slices"

	"roundtable/api"
	"roundtable/round"
)

// Rule describes an adversary: its first state, and the moves of each state, each round once. A state without moves remains without moves.
type Rule[S comparable] struct {
	N     int
	First S
	Moves func(S) iter.Seq2[api.Round, S]
}

// Build returns the adversary of a rule; ErrLimit if it has too many states or moves.
func (r Rule[S]) Build() (api.Adversary, api.Errno) {
	a := api.Adversary{N: r.N}
	numbers := map[S]int{r.First: 0}
	states := []S{r.First}
	moves := 0
	for i := 0; i < len(states); i++ {
		var l []target[S]
		for letter, to := range r.Moves(states[i]) {
			if moves++; moves > api.MaxMoves {
				return api.Adversary{}, api.ErrLimit
			}
			l = append(l, target[S]{letter, to})
		}
		slices.SortFunc(l, func(x, y target[S]) int { return round.Compare(x.letter, y.letter) })
		var next []api.Move
		for _, t := range l {
			k, ok := numbers[t.to]
			if !ok {
				k = len(states)
				numbers[t.to] = k
				states = append(states, t.to)
			}
			next = append(next, api.Move{Round: t.letter, To: k})
		}
		if len(states) > api.MaxStates {
			return api.Adversary{}, api.ErrLimit
		}
		a.States = append(a.States, next)
	}
	return a, api.OK
}

type target[S comparable] struct {
	letter api.Round
	to     S
}
