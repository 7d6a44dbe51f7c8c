package tests

import (
	"math"
	"testing"

	"roundtable/api"
	"roundtable/expr"
)

func ex(op int, args ...api.Expr) api.Expr { return api.Expr{Op: op, Args: args} }
func num(x int) api.Expr                   { return api.Expr{Op: api.ExprConst, Num: x} }
func variable(x int) api.Expr              { return api.Expr{Op: api.ExprVar, Num: x} }
func in(a api.Expr) api.Expr               { return ex(api.ExprIn, a) }
func out(a api.Expr) api.Expr              { return ex(api.ExprOut, a) }
func equal(a, b api.Expr) api.Expr         { return ex(api.ExprEqual, a, b) }
func nest(op, n int, e api.Expr) api.Expr {
	for range n {
		e = ex(op, e)
	}
	return e
}

var (
	yes = equal(num(0), num(0))
	no  = ex(api.ExprLess, num(0), num(0))
)

func exampleScene() expr.Scene {
	return expr.Scene{N: 3, In: []int{0, 1, 1}, Out: []int{1, 1, -1}, Hears: [5]int{3, 7, 4}}
}

type badExpr struct {
	e    api.Expr
	vars int
	err  api.Errno
}

func badExprs() []badExpr {
	cycle := ex(api.ExprNot, yes)
	cycle.Args[0] = cycle
	wide := no
	for range 63 {
		wide = ex(api.ExprAnd, no, wide)
	}
	return []badExpr{
		{yes, -1, api.ErrRange}, {yes, 25, api.ErrRange}, {cycle, 0, api.ErrMany}, {wide, 0, api.ErrMany}, {nest(api.ExprNot, 23, yes), 0, api.ErrDeep},
		{ex(16), 0, api.ErrArg}, {ex(-1, yes), 0, api.ErrArg}, {ex(api.ExprIn), 0, api.ErrShape}, {ex(api.ExprEqual, num(1)), 0, api.ErrShape},
		{variable(0), 0, api.ErrUnbound}, {variable(-1), 3, api.ErrUnbound}, {ex(api.ExprAll, equal(variable(2), num(0))), 1, api.ErrUnbound},
		{num(api.MaxNumber + 1), 0, api.ErrRange}, {num(math.MinInt), 0, api.ErrRange}, {api.Expr{Op: api.ExprIn, Num: 1, Args: []api.Expr{num(0)}}, 0, api.ErrForm},
		{in(yes), 0, api.ErrType}, {ex(api.ExprAnd, yes, num(1)), 0, api.ErrType}, {ex(api.ExprAdd, num(1), ex(99)), 0, api.ErrArg}, {ex(api.ExprNot, ex(api.ExprCount, yes)), 0, api.ErrType},
	}
}

// P7.1: Check, Kind, Size, Uses, Eval and Truth.
func TestExprEval(t *testing.T) {
	s := exampleScene()
	p, q := variable(0), variable(1)
	a := ex(api.ExprAll, ex(api.ExprOr, equal(out(p), num(1)), ex(api.ExprLess, out(p), num(0))))
	b := ex(api.ExprCount, equal(in(p), num(1)))
	c := ex(api.ExprAll, ex(api.ExprSome, ex(api.ExprAnd, ex(api.ExprHears, p, q), equal(in(q), num(1)))))
	for _, x := range []struct {
		e     api.Expr
		value int
	}{
		{a, 1}, {b, 2}, {c, 1}, {in(num(3)), -1}, {in(ex(api.ExprSub, num(0), num(1))), -1}, {ex(api.ExprAdd, out(num(2)), num(1)), 0}, {ex(api.ExprHears, num(2), num(1)), 0},
		{ex(api.ExprHears, num(3), num(0)), 0}, {ex(api.ExprHears, num(0), num(5)), 0}, {ex(api.ExprMost, num(1), num(1)), 1}, {ex(api.ExprLess, num(1), num(1)), 0}, {ex(api.ExprNot, yes), 0},
		{ex(api.ExprCount, yes), 3}, {ex(api.ExprSome, no), 0}, {ex(api.ExprAll, no), 0}, {ex(api.ExprOr, no, no), 0}, {nest(api.ExprAll, 22, yes), 1},
	} {
		want(t, "eval", all(expr.Eval(x.e, s)), all(x.value, api.OK))
		k, _ := expr.Kind(x.e)
		want(t, "truth", expr.Truth(x.e, s), k == api.KindBool && x.value == 1)
	}
	want(t, "vars", all(expr.Eval(ex(api.ExprSub, p, q), expr.Scene{N: 1, Vars: []int{7, 9}})), "[-2 0]")
	for k, heard := range []int{1, 1, 0, 0, 0} {
		wide := expr.Scene{N: 2, Hears: [5]int{31, 31, 31, 31, 31}}
		want(t, "hears", all(expr.Eval(ex(api.ExprHears, num(0), num(k)), wide)), all(heard, api.OK))
		want(t, "hears", all(expr.Eval(ex(api.ExprHears, num(k), num(0)), wide)), all(heard, api.OK))
	}
	want(t, "most processes", all(expr.Eval(ex(api.ExprCount, yes), expr.Scene{N: api.MaxProcs})), "[5 0]")
	want(t, "short lists", all(expr.Eval(in(num(0)), expr.Scene{N: 1})), "[-1 0]")
	want(t, "long lists", all(expr.Eval(in(num(1)), expr.Scene{N: 1, In: []int{1, 2}})), "[-1 0]")
	for _, bad := range []expr.Scene{{}, {N: 6}, {N: 1, In: []int{0, math.MinInt}}, {N: 1, Out: []int{api.MaxNumber + 1}}} {
		want(t, "scene", all(expr.Eval(yes, bad)), all(0, api.ErrRange))
		want(t, "truth", expr.Truth(yes, bad), false)
	}
	want(t, "scene vars", all(expr.Eval(yes, expr.Scene{N: 1, Vars: []int{math.MaxInt}})), "[0 2]")
	want(t, "uses", []int{expr.Uses(a), expr.Uses(c), expr.Uses(ex(99, in(num(0)), out(num(0)))), expr.Uses(yes)}, "[2 5 3 0]")
	want(t, "size", all(expr.Size(c)), "[10 6]")
	want(t, "size", all(expr.Size(ex(99, yes, ex(98, yes)))), "[8 4]")
	large := yes
	for range 5 {
		large = ex(api.ExprAnd, large, large)
	}
	for n, e := range []api.Errno{api.OK, api.OK, api.ErrMany} {
		want(t, "nodes", expr.Check(nest(api.ExprNot, n, large), 0), e) // 127 nodes and more
	}
	want(t, "depth", expr.Check(nest(api.ExprNot, 22, yes), 24), api.OK)
	want(t, "kind", all(expr.Kind(b)), "[0 0]")
	want(t, "kind", all(expr.Kind(ex(api.ExprNot))), "[1 0]")
	want(t, "kind", all(expr.Kind(ex(16))), "[0 1]")
	for _, x := range badExprs() {
		want(t, "check", expr.Check(x.e, x.vars), x.err)
		if x.vars >= 0 {
			want(t, "eval", all(expr.Eval(x.e, expr.Scene{Vars: make([]int, x.vars)})), all(0, x.err))
		}
	}
}

// P7.2: Fold, Negate, Bind, Free and Same.
func TestExprRewrite(t *testing.T) {
	two := ex(api.ExprMost, ex(api.ExprAdd, num(1), num(1)), num(2))
	zero := equal(in(num(0)), num(0))
	big := ex(api.ExprAdd, num(api.MaxNumber), num(1))
	for _, x := range [][2]api.Expr{
		{ex(api.ExprAnd, two, zero), zero}, {ex(api.ExprAnd, zero, two), zero}, {ex(api.ExprAnd, zero, no), no}, {ex(api.ExprOr, zero, no), zero}, {ex(api.ExprOr, zero, two), yes},
		{nest(api.ExprNot, 3, zero), ex(api.ExprNot, zero)}, {ex(api.ExprNot, two), no}, {ex(api.ExprAll, ex(api.ExprNot, two)), no}, {ex(api.ExprCount, no), num(0)}, {ex(api.ExprAll, two), yes}, {ex(api.ExprSome, two), yes}, {ex(api.ExprSome, no), no}, {ex(api.ExprAll, equal(variable(0), num(0))), ex(api.ExprAll, equal(variable(0), num(0)))},
		{ex(api.ExprCount, yes), ex(api.ExprCount, yes)}, {big, big}, {ex(api.ExprSub, num(1), num(3)), num(-2)}, {equal(num(5), num(5)), yes},
	} {
		got, e := expr.Fold(x[0], 0)
		want(t, "fold", all(got, e), all(x[1], api.OK))
	}
	body := ex(api.ExprLess, in(variable(0)), num(2))
	negation := ex(api.ExprSome, ex(api.ExprMost, num(2), in(variable(0))))
	want(t, "negate", all(expr.Negate(ex(api.ExprAll, body), 0)), all(negation, api.OK))
	want(t, "negate", all(expr.Negate(ex(api.ExprNot, ex(api.ExprAll, body)), 0)), all(ex(api.ExprAll, body), api.OK))
	want(t, "negate", all(expr.Negate(ex(api.ExprOr, zero, two), 0)), all(ex(api.ExprAnd, ex(api.ExprNot, zero), ex(api.ExprLess, num(2), two.Args[0])), api.OK))
	want(t, "negate", all(expr.Negate(num(1), 0)), all(api.Expr{}, api.ErrType))
	wide := yes
	for range 5 {
		wide = ex(api.ExprOr, wide, wide)
	}
	want(t, "negate", all(expr.Negate(wide, 0)), all(api.Expr{}, api.ErrMany))
	want(t, "negate", all(expr.Negate(nest(api.ExprAll, 22, yes), 0)), all(api.Expr{}, api.ErrDeep))
	want(t, "bind", all(expr.Bind(ex(api.ExprAll, equal(ex(api.ExprAdd, variable(0), variable(1)), variable(2))), 2, 5)), all(ex(api.ExprAll, equal(ex(api.ExprAdd, num(5), variable(0)), variable(1))), api.OK))
	want(t, "bind", all(expr.Bind(yes, 0, 1)), all(api.Expr{}, api.ErrNone))
	want(t, "bind", all(expr.Bind(yes, 1, math.MinInt)), all(api.Expr{}, api.ErrRange))
	want(t, "free", all(expr.Free(ex(api.ExprAll, equal(variable(3), ex(api.ExprAdd, variable(1), variable(1)))), 3)), "[[1] 0]")
	want(t, "same", []bool{expr.Same(yes, yes), expr.Same(yes, no), expr.Same(num(1), num(2)), expr.Same(ex(99), api.Expr{Op: 99, Args: []api.Expr{}})}, "[true false false true]")
	for _, x := range badExprs() {
		want(t, "fold", all(expr.Fold(x.e, x.vars)), all(api.Expr{}, x.err))
		want(t, "negate", all(expr.Negate(x.e, x.vars)), all(api.Expr{}, x.err))
		want(t, "bind", all(expr.Bind(x.e, x.vars, math.MaxInt)), all(api.Expr{}, x.err))
		want(t, "free", all(expr.Free(x.e, x.vars)), all([]int{}, x.err))
	}
}

// randomExpr makes an expression of a kind that is well-formed for some variables.
func randomExpr(random *source, kind, depth, vars int) api.Expr {
	part := func(kind, vars int) api.Expr { return randomExpr(random, kind, depth-1, vars) }
	if kind == api.KindInt {
		switch k := random.below(7); {
		case depth <= 1 && vars > 0 && k < 4:
			return variable(random.below(vars))
		case depth <= 1 || k == 0:
			return num(random.below(3))
		case k < 3:
			return ex(api.ExprIn+k-1, part(kind, vars))
		case k < 5:
			return ex(api.ExprAdd+k-3, part(kind, vars), part(kind, vars))
		}
		return ex(api.ExprCount, part(api.KindBool, vars+1))
	}
	k := random.below(8)
	switch {
	case depth <= 2 || k < 3:
		return ex(api.ExprEqual+random.below(3), part(api.KindInt, vars), part(api.KindInt, vars))
	case k == 3:
		return ex(api.ExprHears, part(api.KindInt, vars), part(api.KindInt, vars))
	case k < 5:
		return ex(api.ExprAnd+random.below(2), part(kind, vars), part(kind, vars))
	case k == 5:
		return ex(api.ExprNot, part(kind, vars))
	}
	return ex(api.ExprAll+random.below(2), part(kind, vars+1))
}

// P7.3: consequences.
func TestExprLaws(t *testing.T) {
	var random source
	s := exampleScene()
	for range 2000 {
		e := randomExpr(&random, api.KindBool, 5, 0)
		value, err := expr.Eval(e, s)
		if err != api.OK {
			continue
		}
		folded, _ := expr.Fold(e, 0)
		want(t, "fold", all(expr.Eval(folded, s)), all(value, api.OK))
		want(t, "twice", all(expr.Fold(folded, 0)), all(folded, api.OK))
		if negation, err := expr.Negate(e, 0); err == api.OK {
			want(t, "negate", all(expr.Eval(negation, s)), all(1-value, api.OK))
		}
		if e.Op == api.ExprAll {
			holds := 1
			for p := range s.N {
				bound, _ := expr.Bind(e.Args[0], 1, p)
				v, _ := expr.Eval(bound, s)
				holds &= v
			}
			want(t, "bound", holds, value)
		}
	}
}
