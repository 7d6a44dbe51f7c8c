package machine

import (
	"slices"

	"roundtable/api"
	"roundtable/future"
	"roundtable/quotient"
)

// builder makes a machine of the classes of the views of a system. A class belongs to one process and one number of rounds; states numbers the classes of each process and number of rounds.
type builder struct {
	s       api.System
	classes []int
	states  []int
	// symbols[k][p][q] are the symbols of the classes of p for q after k rounds.
	symbols [][][][]int
	m       api.Machine
}

// Synthesize returns the machine of a rule.
func Synthesize(s api.System, r api.Rule) (api.Machine, api.Errno) {
	classes, e := quotient.Classes(s, r)
	if e != api.OK {
		return api.Machine{}, e
	}
	t := s.Problem.Task
	b := &builder{s: s, classes: classes, m: api.Machine{N: t.N, Rounds: s.Problem.Rounds, Ins: t.Ins, Outs: t.Outs}}
	b.addStates(r)
	b.addSymbols()
	b.addSteps()
	return b.m, api.OK
}

// addStates numbers the states, with their decisions, and finds the first ones.
func (b *builder) addStates(r api.Rule) {
	for range b.m.Rounds + 1 {
		b.m.Out = append(b.m.Out, make([][]int, b.m.N))
	}
	for range b.m.N {
		b.m.First = append(b.m.First, slices.Repeat([]int{-1}, b.m.Ins))
	}
	for i, v := range b.s.Table.Views {
		// Classes are numbered in the order of their first views.
		if b.classes[i] == len(b.states) {
			out := &b.m.Out[v.Round][v.Proc]
			b.states = append(b.states, len(*out))
			*out = append(*out, r.Out[i])
		}
		if v.Round == 0 {
			b.m.First[v.Proc][v.Input] = b.states[b.classes[i]]
		}
	}
}

// addSymbols adds the symbols of all places, for each state that of its class.
func (b *builder) addSymbols() {
	views := future.Of(b.s.Table)
	for k := range b.m.Rounds {
		all, own := make([][][]int, b.m.N), make([][][]int, b.m.N)
		for p := range b.m.N {
			all[p], own[p] = make([][]int, b.m.N), make([][]int, b.m.N)
			for q := range b.m.N {
				if q != p {
					all[p][q] = views.Symbols(b.classes, k, p, q)
					own[p][q] = slices.DeleteFunc(slices.Clone(all[p][q]), func(x int) bool { return x == future.None })
				}
			}
		}
		b.symbols, b.m.Symbols = append(b.symbols, all), append(b.m.Symbols, own)
	}
}

// addSteps adds a step for each view behind the first round, equal ones once.
func (b *builder) addSteps() {
	for i, v := range b.s.Table.Views {
		if v.Round == 0 {
			continue
		}
		step := api.Step{Round: v.Round - 1, Proc: v.Proc, Heard: v.Heard, To: b.states[b.classes[i]]}
		for q, heard := range v.Heard {
			switch {
			case heard < 0:
			case q == v.Proc:
				step.Heard[q] = b.states[b.classes[heard]]
			default:
				step.Heard[q] = b.symbols[step.Round][q][v.Proc][b.classes[heard]]
			}
		}
		b.m.Steps = append(b.m.Steps, step)
	}
	slices.SortFunc(b.m.Steps, compareSteps)
	b.m.Steps = slices.Compact(b.m.Steps)
}
