package resolve

import (
	"slices"

	"roundtable/api"
	"roundtable/expr"
	"roundtable/lexer"
)

const maxInt = int(^uint(0) >> 1)

// absent reports whether an expression is the zero expression.
func absent(e api.Expr) bool {
	return e.Op == 0 && e.Num == 0 && len(e.Args) == 0
}

// CheckCond returns OK for well-formed conditions that use only what a mask contains.
func CheckCond(e api.Expr, uses int) api.Errno {
	if err := expr.Check(e, 0); err != api.OK {
		return err
	}
	if kind, _ := expr.Kind(e); kind != api.KindBool {
		return api.ErrType
	}
	if expr.Uses(e)&^uses != 0 {
		return api.ErrUse
	}
	if negative(e) {
		return api.ErrRange
	}
	return api.OK
}

// negative reports whether a constant is below 0.
func negative(e api.Expr) bool {
	return e.Op == api.ExprConst && e.Num < 0 || slices.ContainsFunc(e.Args, negative)
}

// treeSize returns the number of nodes and the depth, and stops when there are too many nodes (as a tree may contain itself).
func treeSize[T any](t T, args func(T) []T, most int) (int, int) {
	nodes, depth := 1, 0
	for _, a := range args(t) {
		if nodes > most {
			break
		}
		n, d := treeSize(a, args, most-nodes)
		nodes += n
		depth = max(depth, d)
	}
	return nodes, depth + 1
}

func schemeSize(s api.Scheme, most int) (int, int) {
	return treeSize(s, func(s api.Scheme) []api.Scheme { return s.Args }, most)
}

func formulaSize(f api.Formula, most int) (int, int) {
	return treeSize(f, func(f api.Formula) []api.Formula { return f.Args }, most)
}

func checkSize(nodes, depth int) api.Errno {
	if nodes > api.MaxNodes {
		return api.ErrMany
	}
	if depth > api.MaxDepth {
		return api.ErrDeep
	}
	return api.OK
}

// CheckScheme returns OK for well-formed schemes behind some adversaries.
func CheckScheme(s api.Scheme, adversaries int) api.Errno {
	if e := checkSize(schemeSize(s, api.MaxNodes)); e != api.OK {
		return e
	}
	return checkScheme(s, adversaries)
}

func checkScheme(s api.Scheme, adversaries int) api.Errno {
	if s.Op < 0 || s.Op >= len(rules) {
		return api.ErrArg
	}
	if len(s.Args) != rules[s.Op].args {
		return api.ErrShape
	}
	switch {
	case s.Op == api.SchemeRef:
		if s.Num < 0 || s.Num >= adversaries {
			return api.ErrName
		}
	case counted(s.Op):
		if s.Num < 0 || s.Num > rules[s.Op].most {
			return api.ErrRange
		}
	case s.Num != 0:
		return api.ErrForm
	}
	if s.Op == api.SchemeGraphs {
		return CheckCond(s.Cond, api.UseHears)
	}
	if !absent(s.Cond) {
		return api.ErrForm
	}
	for _, a := range s.Args {
		if e := checkScheme(a, adversaries); e != api.OK {
			return e
		}
	}
	return api.OK
}

// CheckFormula returns OK for well-formed formulas for n processes.
func CheckFormula(f api.Formula, n int) api.Errno {
	if n < 1 || n > api.MaxProcs {
		return api.ErrRange
	}
	if e := checkSize(formulaSize(f, api.MaxNodes)); e != api.OK {
		return e
	}
	return checkFormula(f, n)
}

func checkFormula(f api.Formula, n int) api.Errno {
	if f.Op < 0 || f.Op >= len(predicates) {
		return api.ErrArg
	}
	p := predicates[f.Op]
	if len(f.Args) != p.args {
		return api.ErrShape
	}
	rest := f
	for i := range p.fields {
		x := *field(&f, p.fields[i])
		if x < 0 || x > most(p.fields[i], n) {
			return api.ErrRange
		}
		*field(&rest, p.fields[i]) = 0
	}
	if rest.Proc != 0 || rest.Other != 0 || rest.Value != 0 || rest.Group != 0 {
		return api.ErrForm
	}
	for _, a := range f.Args {
		if e := checkFormula(a, n); e != api.OK {
			return e
		}
	}
	return api.OK
}

// Check returns OK for well-formed programs.
func Check(p api.Program) api.Errno {
	if p.N < 1 || p.N > api.MaxProcs {
		return api.ErrRange
	}
	if len(p.Tasks)+len(p.Adversaries)+len(p.Formulas)+len(p.Problems) > api.MaxList {
		return api.ErrMany
	}
	known := map[string]bool{}
	name := func(s string) api.Errno {
		if lexer.Name(s) != api.OK {
			return api.ErrName
		}
		if known[s] {
			return api.ErrTwice
		}
		known[s] = true
		return api.OK
	}
	for _, d := range p.Tasks {
		if e := firstError(name(d.Name), checkTask(d)); e != api.OK {
			return e
		}
	}
	for i, d := range p.Adversaries {
		if e := firstError(name(d.Name), CheckScheme(d.Scheme, i)); e != api.OK {
			return e
		}
	}
	for _, d := range p.Formulas {
		if e := firstError(name(d.Name), CheckFormula(d.Formula, p.N)); e != api.OK {
			return e
		}
	}
	for _, d := range p.Problems {
		if e := firstError(name(d.Name), checkProblem(p, d)); e != api.OK {
			return e
		}
	}
	return api.OK
}

// firstError returns the first of some errors that is not OK.
func firstError(l ...api.Errno) api.Errno {
	for _, e := range l {
		if e != api.OK {
			return e
		}
	}
	return api.OK
}

func checkTask(d api.TaskDecl) api.Errno {
	if d.Ins < 1 || d.Ins > api.MaxValues || d.Outs < 1 || d.Outs > api.MaxValues {
		return api.ErrRange
	}
	if !absent(d.Where) {
		if e := CheckCond(d.Where, api.UseIn); e != api.OK {
			return e
		}
	}
	if e := CheckCond(d.Allow, api.UseIn|api.UseOut); e != api.OK {
		return e
	}
	if absent(d.Calm) {
		return api.OK
	}
	return CheckCond(d.Calm, api.UseIn|api.UseOut)
}

func checkProblem(p api.Program, d api.ProblemDecl) api.Errno {
	if d.Task < 0 || d.Task >= len(p.Tasks) || d.Adversary < 0 || d.Adversary >= len(p.Adversaries) {
		return api.ErrNone
	}
	if d.Rounds < 0 || d.Rounds > api.MaxRounds {
		return api.ErrRange
	}
	return api.OK
}
