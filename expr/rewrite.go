package expr

import "roundtable/api"

// rebuild applies a function to all nodes, from the leaves to the root.
func rebuild(e api.Expr, change func(api.Expr) api.Expr) api.Expr {
	args := make([]api.Expr, len(e.Args))
	for i, a := range e.Args {
		args[i] = rebuild(a, change)
	}
	e.Args = args
	return change(e)
}

func keep(e api.Expr) api.Expr { return e }

func constant(x int) api.Expr { return api.Expr{Op: api.ExprConst, Num: x} }

// boolean returns the expression that stands for true or false.
func boolean(b bool) api.Expr {
	op := api.ExprLess
	if b {
		op = api.ExprEqual
	}
	return api.Expr{Op: op, Args: []api.Expr{constant(0), constant(0)}}
}

func isBoolean(e api.Expr, b bool) bool { return Same(e, boolean(b)) }

// Fold replaces constant parts.
func Fold(e api.Expr, vars int) (api.Expr, api.Errno) {
	if err := Check(e, vars); err != api.OK {
		return api.Expr{}, err
	}
	return rebuild(e, foldNode), api.OK
}

// foldNode replaces a node whose arguments are folded.
func foldNode(e api.Expr) api.Expr {
	switch e.Op {
	case api.ExprAdd, api.ExprSub, api.ExprEqual, api.ExprLess, api.ExprMost:
		return foldConstants(e)
	case api.ExprNot:
		switch a := e.Args[0]; {
		case isBoolean(a, true), isBoolean(a, false):
			return boolean(isBoolean(a, false))
		case a.Op == api.ExprNot:
			return a.Args[0]
		}
	case api.ExprAnd, api.ExprOr:
		return foldPair(e)
	case api.ExprAll, api.ExprSome:
		if a := e.Args[0]; isBoolean(a, true) || isBoolean(a, false) {
			return a
		}
	case api.ExprCount:
		if isBoolean(e.Args[0], false) {
			return constant(0)
		}
	}
	return e
}

func foldConstants(e api.Expr) api.Expr {
	if e.Args[0].Op != api.ExprConst || e.Args[1].Op != api.ExprConst {
		return e
	}
	value := apply(e, Scene{}, nil, e.Args[0].Num, e.Args[1].Num)
	if operations[e.Op].kind == api.KindBool {
		return boolean(value == 1)
	}
	if !small(value) {
		return e
	}
	return constant(value)
}

// foldPair folds a conjunction or a disjunction: true is neutral for the first one, and false for the second one.
func foldPair(e api.Expr) api.Expr {
	neutral := e.Op == api.ExprAnd
	a, b := e.Args[0], e.Args[1]
	switch {
	case isBoolean(a, neutral):
		return b
	case isBoolean(b, neutral):
		return a
	case isBoolean(a, !neutral), isBoolean(b, !neutral):
		return boolean(!neutral)
	}
	return e
}

// Negate returns the negation of a condition.
func Negate(e api.Expr, vars int) (api.Expr, api.Errno) {
	if err := Check(e, vars); err != api.OK {
		return api.Expr{}, err
	}
	if operations[e.Op].kind != api.KindBool {
		return api.Expr{}, api.ErrType
	}
	negation := negate(e)
	if err := checkSize(negation); err != api.OK {
		return api.Expr{}, err
	}
	return negation, api.OK
}

func negate(e api.Expr) api.Expr {
	switch e.Op {
	case api.ExprLess:
		return swap(e, api.ExprMost)
	case api.ExprMost:
		return swap(e, api.ExprLess)
	case api.ExprNot:
		return rebuild(e.Args[0], keep)
	case api.ExprAnd, api.ExprOr, api.ExprAll, api.ExprSome:
		args := make([]api.Expr, len(e.Args))
		for i, a := range e.Args {
			args[i] = negate(a)
		}
		return api.Expr{Op: opposite(e.Op), Args: args}
	}
	return api.Expr{Op: api.ExprNot, Args: []api.Expr{rebuild(e, keep)}}
}

func swap(e api.Expr, op int) api.Expr {
	return api.Expr{Op: op, Args: []api.Expr{rebuild(e.Args[1], keep), rebuild(e.Args[0], keep)}}
}

func opposite(op int) int {
	switch op {
	case api.ExprAnd:
		return api.ExprOr
	case api.ExprOr:
		return api.ExprAnd
	case api.ExprAll:
		return api.ExprSome
	}
	return api.ExprAll
}

// Bind replaces the outermost variable by a number.
func Bind(e api.Expr, vars, value int) (api.Expr, api.Errno) {
	if err := Check(e, vars); err != api.OK {
		return api.Expr{}, err
	}
	if vars == 0 {
		return api.Expr{}, api.ErrNone
	}
	if !small(value) {
		return api.Expr{}, api.ErrRange
	}
	return rebuild(e, func(e api.Expr) api.Expr {
		switch {
		case e.Op != api.ExprVar:
			return e
		case e.Num == 0:
			return constant(value)
		}
		e.Num--
		return e
	}), api.OK
}
