// Package fresh copies lists and structures, so that results share no memory with arguments.
package fresh

import "roundtable/api"

// List returns a copy of a list.
func List[T any](l []T) []T {
	if len(l) == 0 {
		return nil
	}
	c := make([]T, len(l))
	copy(c, l)
	return c
}

// Lists returns a copy of a list of lists.
func Lists[T any](l [][]T) [][]T {
	return each(l, List[T])
}

// each returns the list of the copies of all elements.
func each[T any](l []T, copied func(T) T) []T {
	if len(l) == 0 {
		return nil
	}
	c := make([]T, len(l))
	for i, x := range l {
		c[i] = copied(x)
	}
	return c
}

// Case returns a copy of a case.
func Case(c api.Case) api.Case {
	return api.Case{In: List(c.In), Out: Lists(c.Out), Calm: Lists(c.Calm)}
}

// Task returns a copy of a task.
func Task(t api.Task) api.Task {
	t.Cases = each(t.Cases, Case)
	return t
}

// Adversary returns a copy of an adversary.
func Adversary(a api.Adversary) api.Adversary {
	a.States = Lists(a.States)
	return a
}

// Problem returns a copy of a problem.
func Problem(p api.Problem) api.Problem {
	p.Task, p.Adversary = Task(p.Task), Adversary(p.Adversary)
	return p
}

// Expr returns a copy of an expression.
func Expr(e api.Expr) api.Expr {
	e.Args = each(e.Args, Expr)
	return e
}

// Scheme returns a copy of a scheme.
func Scheme(s api.Scheme) api.Scheme {
	s.Cond, s.Args = Expr(s.Cond), each(s.Args, Scheme)
	return s
}

// Formula returns a copy of a formula.
func Formula(f api.Formula) api.Formula {
	f.Args = each(f.Args, Formula)
	return f
}

// Program returns a copy of a program.
func Program(p api.Program) api.Program {
	p.Tasks = each(p.Tasks, func(d api.TaskDecl) api.TaskDecl {
		d.Where, d.Allow, d.Calm = Expr(d.Where), Expr(d.Allow), Expr(d.Calm)
		return d
	})
	p.Adversaries = each(p.Adversaries, func(d api.AdversaryDecl) api.AdversaryDecl {
		d.Scheme = Scheme(d.Scheme)
		return d
	})
	p.Formulas = each(p.Formulas, func(d api.FormulaDecl) api.FormulaDecl {
		d.Formula = Formula(d.Formula)
		return d
	})
	p.Problems = List(p.Problems)
	return p
}
