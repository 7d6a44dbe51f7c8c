// Package fresh copies lists and structures, so that results share no memory with arguments.
package fresh

import "roundtable/api"

// List returns a copy of a list.
func List[T any](l []T) []T {
	if len(l) == 0 {
		return nil
	}
	c := make([]T, len(l))
	copy(c, l)
	return c
}

// Lists returns a copy of a list of lists.
func Lists[T any](l [][]T) [][]T {
	return each(l, List[T])
}

// each returns the list of the copies of all elements.
func each[T any](l []T, copied func(T) T) []T {
	if len(l) == 0 {
		return nil
	}
	c := make([]T, len(l))
	for i, x := range l {
		c[i] = copied(x)
	}
	return c
}

// Case returns a copy of a case.
func Case(c api.Case) api.Case {
	return api.Case{In: List(c.In), Out: Lists(c.Out), Calm: Lists(c.Calm)}
}

// Task returns a copy of a task.
func Task(t api.Task) api.Task {
	t.Cases = each(t.Cases, Case)
	return t
}

// Adversary returns a copy of an adversary.
func Adversary(a api.Adversary) api.Adversary {
	a.States = Lists(a.States)
	return a
}

// Problem returns a copy of a problem.
func Problem(p api.Problem) api.Problem {
	p.Task, p.Adversary = Task(p.Task), Adversary(p.Adversary)
	return p
}
