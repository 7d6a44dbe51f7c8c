package expr

import (
	"slices"

	"roundtable/api"
)

func checkScene(s Scene) api.Errno {
	if s.N < 1 || s.N > api.MaxProcs {
		return api.ErrRange
	}
	for _, l := range [][]int{s.In, s.Out, s.Vars} {
		if slices.ContainsFunc(l, func(x int) bool { return !small(x) }) {
			return api.ErrRange
		}
	}
	return api.OK
}

// Eval returns the value of an expression.
func Eval(e api.Expr, s Scene) (int, api.Errno) {
	if err := Check(e, len(s.Vars)); err != api.OK {
		return 0, err
	}
	if err := checkScene(s); err != api.OK {
		return 0, err
	}
	var value func(e api.Expr, vars []int) int
	value = func(e api.Expr, vars []int) int {
		if quantifier(e.Op) {
			return decide(e.Op, s.N, count(e, s, vars, value))
		}
		var args [2]int
		for i, a := range e.Args {
			args[i] = value(a, vars)
			// The second operand cannot change the value any more.
			if e.Op == api.ExprAnd && args[i] == 0 || e.Op == api.ExprOr && args[i] == 1 {
				return args[i]
			}
		}
		return apply(e, s, vars, args[0], args[1])
	}
	return value(e, s.Vars), api.OK
}

// count returns for how many processes the argument of a quantifier holds; for All and Some it stops when their value is known.
func count(e api.Expr, s Scene, vars []int, value func(api.Expr, []int) int) int {
	body := e.Args[0]
	vars = append(slices.Clip(vars), 0)
	if !mentions(body, len(vars)-1) {
		return s.N * value(body, vars)
	}
	holds := 0
	for p := range s.N {
		vars[len(vars)-1] = p
		holds += value(body, vars)
		if e.Op == api.ExprAll && holds <= p || e.Op == api.ExprSome && holds > 0 {
			break
		}
	}
	return holds
}

func decide(op, n, holds int) int {
	switch op {
	case api.ExprAll:
		return truth(holds == n)
	case api.ExprSome:
		return truth(holds > 0)
	}
	return holds
}

func truth(b bool) int {
	if b {
		return 1
	}
	return 0
}

// element returns the element of a list for a process, -1 if there is none.
func element(l []int, n, p int) int {
	if p < 0 || p >= n || p >= len(l) {
		return -1
	}
	return l[p]
}

// apply returns the value of an operation without quantifiers for the values of its arguments.
func apply(e api.Expr, s Scene, vars []int, x, y int) int {
	switch e.Op {
	case api.ExprConst:
		return e.Num
	case api.ExprVar:
		return vars[e.Num]
	case api.ExprIn:
		return element(s.In, s.N, x)
	case api.ExprOut:
		return element(s.Out, s.N, x)
	case api.ExprHears:
		return truth(x >= 0 && x < s.N && y >= 0 && y < s.N && s.Hears[x]>>y&1 == 1)
	case api.ExprAdd:
		return x + y
	case api.ExprSub:
		return x - y
	case api.ExprEqual:
		return truth(x == y)
	case api.ExprLess:
		return truth(x < y)
	case api.ExprMost:
		return truth(x <= y)
	case api.ExprAnd:
		return x & y
	case api.ExprOr:
		return x | y
	}
	return 1 - x
}

// Truth reports whether an expression is a condition that holds.
func Truth(e api.Expr, s Scene) bool {
	kind, _ := Kind(e)
	value, err := Eval(e, s)
	return err == api.OK && kind == api.KindBool && value == 1
}
