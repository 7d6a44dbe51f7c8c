package tests

import (
	"math"
	"testing"

	"roundtable/api"
	"roundtable/clauses"
)

func clausesOf(vars int, l ...[]int) api.Clauses { return api.Clauses{Vars: vars, List: l} }

func exampleClauses() api.Clauses {
	return clausesOf(4, []int{1, 2}, []int{-1, 3}, []int{-2, -3}, []int{-2, 4})
}

type badClauses struct {
	c api.Clauses
	e api.Errno
}

func badClauseLists() []badClauses {
	return []badClauses{
		{api.Clauses{Vars: -1}, api.ErrRange}, {api.Clauses{Vars: 4097}, api.ErrRange}, {api.Clauses{Vars: 1, List: make([][]int, 32769)}, api.ErrMany}, {clausesOf(2, []int{1}, []int{0}), api.ErrRange}, {clausesOf(2, []int{1}, []int{-3}), api.ErrRange},
		{clausesOf(2, []int{math.MinInt}), api.ErrRange}, {clausesOf(2, []int{2, 1}), api.ErrOrder}, {clausesOf(2, []int{1, -1}), api.ErrOrder}, {clausesOf(2, []int{1, 1, 9}), api.ErrOrder},
	}
}

// P41.1: Check, Normal, Eval, Assign and Subsumes.
func TestClausesModels(t *testing.T) {
	c := exampleClauses()
	want(t, "check", clauses.Check(c), api.OK)
	want(t, "check", clauses.Check(api.Clauses{}), api.OK)
	want(t, "eval", all(clauses.Eval(c, []int{1, -2, 3, -4})), "[0 true 0]")
	want(t, "eval", all(clauses.Eval(c, []int{1, 2, 3, 4})), "[2 false 0]")
	want(t, "eval", all(clauses.Eval(c, []int{1, 2, 3})), "[0 false 15]")
	want(t, "eval", all(clauses.Eval(c, []int{1, 3, 2, 4})), "[0 false 3]")
	want(t, "eval", all(clauses.Eval(clausesOf(0, nil), nil)), "[0 false 0]")
	want(t, "assign", all(clauses.Assign(c, []int{-2})), "[{4 [[1] [-1 3]]} 0]")
	want(t, "assign", all(clauses.Assign(c, []int{-3, 1})), "[{4 [[] [-2 4]]} 0]")
	want(t, "assign", all(clauses.Assign(c, []int{1, 5})), "[{0 []} 2]")
	want(t, "assign", all(clauses.Assign(c, []int{1, -1, 5})), "[{0 []} 7]")
	want(t, "normal", all(clauses.Normal(clausesOf(3, []int{3, -1, 3}, []int{1, 2, -1}, []int{-1, 3}, nil, nil))), "[{3 [[-1 3] []]} 0]")
	want(t, "normal", all(clauses.Normal(clausesOf(3, []int{3, 4}))), "[{0 []} 2]")
	want(t, "normal", all(clauses.Normal(clausesOf(3, []int{3, 0}))), "[{0 []} 2]")
	want(t, "normal", all(clauses.Normal(clausesOf(-1))), "[{0 []} 2]")
	want(t, "normal", all(clauses.Normal(api.Clauses{List: make([][]int, 32769)})), "[{0 []} 5]")
	want(t, "subsumes", []bool{clauses.Subsumes([]int{3, 1, 1}, []int{1, 2, 3}), clauses.Subsumes([]int{-3}, []int{1, 2, 3}), clauses.Subsumes(nil, nil), clauses.Subsumes([]int{0}, []int{0})}, "[true false true true]")
	for _, x := range badClauseLists() {
		want(t, "check", clauses.Check(x.c), x.e)
		want(t, "eval", all(clauses.Eval(x.c, nil)), all(0, false, x.e))
		want(t, "assign", all(clauses.Assign(x.c, []int{0})), all(api.Clauses{}, x.e))
		want(t, "propagate", all(clauses.Propagate(x.c, []int{0})), all([]int{}, []int{}, 0, x.e))
	}
}

// P41.2: Propagate and Resolve.
func TestClausesPropagate(t *testing.T) {
	c := exampleClauses()
	want(t, "propagate", all(clauses.Propagate(c, []int{1})), "[[1 3 -2] [-1 1 2] -1 0]")
	want(t, "propagate", all(clauses.Propagate(c, []int{2})), "[[2 -3 -1 4] [-1 2 1 3] -1 0]")
	want(t, "propagate", all(clauses.Propagate(c, []int{1, 2})), "[[1 2 3] [-1 -1 1] 2 0]")
	want(t, "propagate", all(clauses.Propagate(c, nil)), "[[] [] -1 0]")
	want(t, "propagate", all(clauses.Propagate(clausesOf(2, []int{1, 2}, nil, []int{1}), nil)), "[[] [] 1 0]")
	want(t, "propagate", all(clauses.Propagate(clausesOf(2, []int{-1, 2}, []int{1}, []int{-1}), nil)), "[[1 2] [1 0] 2 0]")
	want(t, "propagate", all(clauses.Propagate(c, []int{5})), "[[] [] 0 2]")
	want(t, "propagate", all(clauses.Propagate(c, []int{1, -1, 5})), "[[] [] 0 7]")
	want(t, "resolve", all(clauses.Resolve([]int{1, 2}, []int{-1, 3}, 1)), "[[2 3] 0]")
	want(t, "resolve", all(clauses.Resolve([]int{1}, []int{-1}, 1)), "[[] 0]")
	want(t, "resolve", all(clauses.Resolve([]int{2, 1}, []int{0}, 0)), "[[] 14]")
	want(t, "resolve", all(clauses.Resolve([]int{1}, []int{0}, 0)), "[[] 2]")
	want(t, "resolve", all(clauses.Resolve([]int{1}, []int{-1}, -1)), "[[] 2]")
	want(t, "resolve", all(clauses.Resolve([]int{1}, []int{-1}, 2)), "[[] 6]")
	want(t, "resolve", all(clauses.Resolve([]int{-1}, []int{1}, 1)), "[[] 6]")
	want(t, "resolve", all(clauses.Resolve([]int{1, 2}, []int{-1, -2}, 1)), "[[] 7]")
}

func randomClauses(random *source, vars, n int) api.Clauses {
	c := api.Clauses{Vars: vars}
	for range n {
		var clause []int
		for v := 1; v <= vars; v++ {
			if k := random.below(5); k < 2 {
				clause = append(clause, v-2*v*k)
			}
		}
		c.List = append(c.List, clause)
	}
	return c
}

// models lists all models by trying.
func models(c api.Clauses) [][]int {
	var l [][]int
	for bits := range 1 << c.Vars {
		var m []int
		for v := 1; v <= c.Vars; v++ {
			m = append(m, v-2*v*(bits>>(c.Vars-v)&1))
		}
		if _, ok, _ := clauses.Eval(c, m); ok {
			l = append(l, m)
		}
	}
	return l
}

// P41.3: consequences.
func TestClausesLaws(t *testing.T) {
	var random source
	for range 200 {
		c := randomClauses(&random, 5, 6)
		doubled := api.Clauses{Vars: 5, List: append([][]int{{2, -2}, {1, 1}}, c.List...)}
		one := append([][]int{{1}}, c.List...)
		normal, _ := clauses.Normal(doubled)
		want(t, "normal", models(normal), models(api.Clauses{Vars: 5, List: one}))
		l := models(c)
		trail, _, conflict, _ := clauses.Propagate(c, []int{3})
		assigned, _ := clauses.Assign(c, []int{3})
		for _, m := range models(assigned) {
			if m[2] == 3 {
				want(t, "assigned", containsVector(l, m), true)
			}
		}
		for _, m := range l {
			if m[2] == 3 {
				want(t, "no conflict", conflict, -1)
				for _, x := range trail {
					want(t, "propagated", m[max(x, -x)-1], x)
				}
			}
		}
		for _, a := range c.List {
			for _, b := range c.List {
				if r, e := clauses.Resolve(a, b, 2); e == api.OK {
					for _, m := range l {
						_, ok, _ := clauses.Eval(clausesOf(5, r), m)
						want(t, "resolvent", ok, true)
					}
				}
			}
		}
	}
}
