// Package system looks things up in systems that are known to be right.
package system

import (
	"slices"

	"roundtable/api"
	"roundtable/links"
)

// Faulty returns the processes that are faulty at the end of a word.
func Faulty(word []api.Round) int {
	if len(word) == 0 {
		return 0
	}
	return word[len(word)-1].Faulty
}

// Obliged returns those of n processes that are not faulty at the end of a word.
func Obliged(n int, word []api.Round) int {
	return (1<<n - 1) &^ Faulty(word)
}

// Has reports whether a process is in a set.
func Has(set, p int) bool { return set>>p&1 == 1 }

// Processes returns the number of processes of a system.
func Processes(s api.System) int { return s.Problem.Task.N }

// Final returns the views of an execution behind all rounds.
func Final(x api.Execution) []int { return x.Views[len(x.Views)-1] }

// Duties calls a function for each execution and each process that is obliged in it, with its final view.
func Duties(s api.System, visit func(e, p, view int)) {
	n := Processes(s)
	for e, x := range s.Executions {
		set := Obliged(n, x.Word)
		for p, view := range Final(x) {
			if Has(set, p) {
				visit(e, p, view)
			}
		}
	}
}

// Relevant returns the relevant final views in ascending order.
func Relevant(s api.System) []int {
	is := make([]bool, len(s.Table.Views))
	Duties(s, func(_, _, view int) { is[view] = true })
	var l []int
	for view, ok := range is {
		if ok {
			l = append(l, view)
		}
	}
	return l
}

// Own returns the own view of a view in the round before, or -1 in round 0.
func Own(t api.Table, view int) int {
	v := t.Views[view]
	if v.Round == 0 {
		return -1
	}
	return v.Heard[v.Proc]
}

// Continuing returns for each view the relevant final views that continue it, in ascending order.
func Continuing(s api.System) [][]int {
	l := make([][]int, len(s.Table.Views))
	for _, final := range Relevant(s) {
		for view := final; view >= 0; view = Own(s.Table, view) {
			l[view] = append(l[view], final)
		}
	}
	return l
}

// Vectors returns the output vectors that are allowed for a case and a word. They belong to the task.
func Vectors(t api.Task, index int, word []api.Round) [][]int {
	c := t.Cases[index]
	if Faulty(word) == 0 && len(c.Calm) > 0 {
		return c.Calm
	}
	return c.Out
}

// Allowed returns the output vectors that are allowed in an execution. They belong to the system.
func Allowed(s api.System, x api.Execution) [][]int {
	return Vectors(s.Problem.Task, x.Case, x.Word)
}

// Permitted reports whether some allowed vector has the decisions of all processes of a set.
func Permitted(allowed [][]int, set int, decisions []int) bool {
	return slices.ContainsFunc(allowed, func(v []int) bool {
		for p, x := range decisions {
			if Has(set, p) && v[p] != x {
				return false
			}
		}
		return true
	})
}

// Links returns the graph of the executions that are linked by processes which are obliged in both and have the same final view.
func Links(s api.System) links.Graph {
	classes := make([][]int, Processes(s))
	for p := range classes {
		classes[p] = slices.Repeat([]int{-1}, len(s.Executions))
	}
	Duties(s, func(e, p, view int) { classes[p][e] = view })
	return links.New(len(s.Executions), classes)
}

// Known returns for each view of a table the processes whose inputs are in its past.
func Known(t api.Table) []int {
	known := make([]int, len(t.Views))
	for i, v := range t.Views {
		known[i] = 1 << v.Proc
		for _, k := range v.Heard {
			if k >= 0 {
				known[i] |= known[k]
			}
		}
	}
	return known
}

// Points returns the number of points of a system.
func Points(s api.System) int { return len(s.Executions) * (s.Problem.Rounds + 1) }

// Place returns the execution and the number of rounds of a point.
func Place(s api.System, point int) (int, int) {
	return point / (s.Problem.Rounds + 1), point % (s.Problem.Rounds + 1)
}

// View returns the view of a process at a point.
func View(s api.System, point, p int) int {
	e, k := Place(s, point)
	return s.Executions[e].Views[k][p]
}

// Early returns the early rule of values of the relevant final views.
func Early(s api.System, values []int) api.Rule {
	const none = -1
	out := slices.Repeat([]int{none}, len(s.Table.Views))
	open := make([]bool, len(out))
	differ := make([]bool, len(out))
	// follow hands the value of a final view down to the views that it continues.
	var follow func(view, value int)
	follow = func(view, value int) {
		if view < 0 {
			return
		}
		differ[view] = differ[view] || open[view] && out[view] != value
		open[view], out[view] = true, value
		follow(Own(s.Table, view), value)
	}
	for _, view := range Relevant(s) {
		follow(view, values[view])
	}
	for view := range out {
		before := Own(s.Table, view)
		switch {
		case differ[view]:
			out[view] = none
		case !open[view] && before >= 0:
			out[view] = out[before]
		}
	}
	return api.Rule{Out: out}
}

// situation is what the allowed vectors of an execution depend on.
type situation struct {
	index int
	calm  bool
}

// Domains returns for each relevant final view the set of the values that its process has in some allowed vector, in every execution in which it is obliged and has this view. All other views have the empty set.
func Domains(s api.System) []int {
	sets := make([]int, len(s.Table.Views))
	for _, view := range Relevant(s) {
		sets[view] = 1<<s.Problem.Task.Outs - 1
	}
	known := map[situation][]int{}
	Duties(s, func(e, p, view int) {
		x := s.Executions[e]
		at := situation{x.Case, Faulty(x.Word) == 0}
		if known[at] == nil {
			known[at] = unions(Processes(s), Allowed(s, x))
		}
		sets[view] &= known[at][p]
	})
	return sets
}

// unions returns for each process the set of the values that it has in some of a list of vectors.
func unions(n int, vectors [][]int) []int {
	l := make([]int, n)
	for _, v := range vectors {
		for p, x := range v {
			l[p] |= 1 << x
		}
	}
	return l
}
