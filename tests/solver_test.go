package tests

import (
	"slices"
	"testing"

	"roundtable/api"
	"roundtable/clauses"
	"roundtable/refute"
	"roundtable/solver"
)

// pigeons says that n pigeons sit in fewer holes, each alone.
func pigeons(n int) api.Clauses {
	holes := n - 1
	c := api.Clauses{Vars: n * holes}
	for p := range n {
		var clause []int
		for h := range holes {
			clause = append(clause, p*holes+h+1)
		}
		c.List = append(c.List, clause)
		for q := range p {
			for h := range holes {
				c.List = append(c.List, []int{-(q*holes + h + 1), -(p*holes + h + 1)})
			}
		}
	}
	return c
}

// solved checks what Solve returns, and returns its verdict.
func solved(t *testing.T, c api.Clauses) int {
	t.Helper()
	verdict, model, proof, e := solver.Solve(c)
	good(t, "solve", e)
	if verdict == api.VerdictYes {
		want(t, "model", all(clauses.Eval(c, model)), "[0 true 0]")
		want(t, "no proof", len(proof), 0)
	} else {
		want(t, "proof", all(refute.Verify(c, proof)), "[0 0]")
		want(t, "no model", len(model), 0)
	}
	return verdict
}

// P43.1: Solve and Under.
func TestSolverSolve(t *testing.T) {
	c := clausesOf(3, []int{1, 2}, []int{-1, 3}, []int{-2, 3})
	want(t, "solve", solved(t, c), api.VerdictYes)
	want(t, "solve", solved(t, square()), api.VerdictNo)
	want(t, "solve", solved(t, clausesOf(0)), api.VerdictYes)
	want(t, "solve", solved(t, clausesOf(0, nil)), api.VerdictNo)
	want(t, "solve", solved(t, clausesOf(1, []int{1}, []int{-1})), api.VerdictNo)
	want(t, "solve", solved(t, clausesOf(30, []int{30})), api.VerdictYes)
	for n := 2; n <= 7; n++ {
		want(t, "pigeons", solved(t, pigeons(n)), api.VerdictNo)
	}
	full, _ := fullTree(10)
	want(t, "full", solved(t, full), api.VerdictNo)
	verdict, model, core, e := solver.Under(c, []int{1, -3})
	want(t, "under", all(verdict, model, slices.Contains(core, -3), e), "[2 [] true 0]")
	want(t, "under", all(solver.Under(c, []int{-3})), "[2 [] [-3] 0]")
	verdict, model, core, e = solver.Under(c, []int{-1, 3})
	want(t, "under", all(verdict, model, core, e), "[1 [-1 2 3] [] 0]")
	want(t, "under", all(solver.Under(c, []int{4})), "[0 [] [] 2]")
	want(t, "under", all(solver.Under(c, []int{1, 1})), "[0 [] [] 7]")
	for _, x := range badClauseLists() {
		want(t, "solve", all(solver.Solve(x.c)), all(0, []int{}, []int{}, x.e))
		want(t, "under", all(solver.Under(x.c, []int{0})), all(0, []int{}, []int{}, x.e))
		want(t, "models", all(solver.Models(x.c, -1)), all([]int{}, x.e))
		want(t, "count", all(solver.Count(x.c)), all(0, x.e))
		want(t, "implies", all(solver.Implies(x.c, []int{0})), all(false, x.e))
		want(t, "core", all(solver.Core(x.c)), all([]int{}, x.e))
	}
}

// P43.2: Models, Count, Implies and Core.
func TestSolverModels(t *testing.T) {
	c := clausesOf(3, []int{1, 2}, []int{-1, 3}, []int{-2, 3})
	want(t, "models", all(solver.Models(c, 3)), "[[[1 2 3] [1 -2 3] [-1 2 3]] 0]")
	want(t, "models", all(solver.Models(c, 2)), "[[] 5]")
	want(t, "models", all(solver.Models(square(), 0)), "[[] 0]")
	want(t, "models", all(solver.Models(c, -1)), "[[] 2]")
	many, e := solver.Models(clausesOf(10), 1024)
	want(t, "models", all(len(many), many[1][9], e), "[1024 -10 0]")
	want(t, "models", all(solver.Models(c, 1025)), "[[] 2]")
	want(t, "models", all(solver.Models(clausesOf(21, nil), 1)), "[[] 17]")
	want(t, "models", all(solver.Models(clausesOf(0), 1)), "[[[]] 0]")
	units := clausesOf(20)
	for v := range 20 {
		units.List = append(units.List, []int{-1 - v})
	}
	only, e := solver.Models(units, 1)
	want(t, "models", all(len(only), only[0][19], e), "[1 -20 0]")
	want(t, "count", all(solver.Count(c)), "[3 0]")
	want(t, "count", all(solver.Count(clausesOf(20, []int{1}, []int{-1, 20}))), "[262144 0]")
	want(t, "count", all(solver.Count(clausesOf(2, nil))), "[0 0]")
	want(t, "count", all(solver.Count(clausesOf(21))), "[0 17]")
	want(t, "implies", all(solver.Implies(c, []int{3})), "[true 0]")
	want(t, "implies", all(solver.Implies(c, []int{1, 2})), "[true 0]")
	want(t, "implies", all(solver.Implies(c, []int{1})), "[false 0]")
	want(t, "implies", all(solver.Implies(c, nil)), "[false 0]")
	want(t, "implies", all(solver.Implies(square(), nil)), "[true 0]")
	want(t, "implies", all(solver.Implies(c, []int{4})), "[false 2]")
	want(t, "implies", all(solver.Implies(c, []int{2, 1})), "[false 14]")
	want(t, "core", all(solver.Core(clausesOf(3, []int{1, 2}, []int{-1, 3}, []int{-2, 3}, []int{-3}))), "[[0 1 2 3] 0]")
	want(t, "core", all(solver.Core(clausesOf(3, []int{1}, []int{1, 2}, []int{-1, 3}, []int{-2, 3}, []int{-3}))), "[[0 2 4] 0]")
	want(t, "core", all(solver.Core(clausesOf(1, nil, []int{1}, nil))), "[[0] 0]")
	want(t, "core", all(solver.Core(c)), "[[] 6]")
}

// P43.3: consequences.
func TestSolverLaws(t *testing.T) {
	var random source
	for i := range 400 {
		c := randomClauses(&random, 6, 6+i%20)
		l := models(c)
		want(t, "verdict", solved(t, c) == api.VerdictYes, len(l) > 0)
		want(t, "count", all(solver.Count(c)), all(len(l), api.OK))
		want(t, "models", all(solver.Models(c, 64)), all(l, api.OK))
		for _, assumed := range [][]int{{-2, 5}, {1, -3, 4, 6}} {
			some := api.Clauses{Vars: 6, List: c.List}
			for _, x := range assumed {
				some.List = append(some.List[:len(some.List):len(some.List)], []int{x})
			}
			verdict, model, core, e := solver.Under(c, assumed)
			good(t, "under", e)
			want(t, "under", verdict == api.VerdictYes, len(models(some)) > 0)
			if verdict == api.VerdictYes {
				want(t, "model", all(clauses.Eval(some, model)), "[0 true 0]")
			} else {
				v, _, _, _ := solver.Under(c, core)
				want(t, "core", v, api.VerdictNo)
				want(t, "order", slices.Equal(core, slices.DeleteFunc(slices.Clone(assumed), func(x int) bool { return !slices.Contains(core, x) })), true)
			}
		}
		without, _ := solver.Implies(c, []int{-2, 5})
		bad := slices.ContainsFunc(l, func(m []int) bool { return m[1] == 2 && m[4] == -5 })
		want(t, "implies", without, !bad)
		for k := 0; len(l) > 0 && k < len(l); k++ {
			var clause []int
			for _, x := range l[k] {
				clause = append(clause, -x)
			}
			c.List = append(c.List, clause)
		}
		want(t, "excluded", solved(t, c), api.VerdictNo)
		core, e := solver.Core(c)
		good(t, "core", e)
		for k := range core {
			some := api.Clauses{Vars: 6}
			for j, index := range core {
				if j != k {
					some.List = append(some.List, c.List[index])
				}
			}
			want(t, "irreducible", len(models(some)) > 0, true)
		}
		left := slices.Clone(c.List)
		for k := len(left) - 1; k >= 0; k-- {
			less := append(slices.Clone(left[:k]), left[k+1:]...)
			if len(models(api.Clauses{Vars: 6, List: less})) == 0 {
				left = less
			}
		}
		want(t, "greedy", len(core), len(left))
	}
}
