package tests

import (
	"testing"

	"roundtable/api"
	"roundtable/partition"
	"roundtable/points"
)

// pointsOf lists the points of a set.
func pointsOf(set []bool, e api.Errno) []int {
	if e != api.OK {
		return []int{-int(e)}
	}
	var l []int
	for i, ok := range set {
		if ok {
			l = append(l, i)
		}
	}
	return l
}

// P36.1: Count, Number and Place.
func TestPointsNumbers(t *testing.T) {
	s := exampleSystem(t)
	want(t, "count", all(points.Count(s)), "[8 0]")
	want(t, "number", all(points.Number(s, 2, 1)), "[5 0]")
	want(t, "number", all(points.Number(s, 4, 9)), "[0 6]")
	want(t, "number", all(points.Number(s, 3, 2)), "[0 2]")
	want(t, "number", all(points.Number(s, 3, -1)), "[0 2]")
	want(t, "place", all(points.Place(s, 5)), "[2 1 0]")
	want(t, "place", all(points.Place(s, 8)), "[0 0 6]")
	want(t, "place", all(points.Place(s, -1)), "[0 0 6]")
	for _, x := range badSystems(t) {
		want(t, "count", all(points.Count(x.s)), all(0, x.e))
		want(t, "number", all(points.Number(x.s, -1, 0)), all(0, x.e))
		want(t, "place", all(points.Place(x.s, -1)), all(0, 0, x.e))
		want(t, "classes", all(points.Classes(x.s, -1)), all([]int{}, x.e))
		want(t, "together", all(points.Together(x.s, -1)), all([]int{}, x.e))
		want(t, "reach", all(points.Reach(x.s, -1)), all([]int{}, x.e))
		want(t, "atom", all(points.Atom(x.s, api.Rule{Out: []int{0}}, api.Formula{})), all([]int{}, x.e))
	}
}

// P36.2: Classes, Together, Reach and Atom.
func TestPointsClasses(t *testing.T) {
	s := exampleSystem(t)
	want(t, "classes", all(points.Classes(s, 0)), "[[0 1 0 2 0 1 0 3] 0]")
	want(t, "classes", all(points.Classes(s, 1)), "[[0 1 0 1 2 3 2 3] 0]")
	want(t, "classes", all(points.Classes(s, 2)), "[[] 2]")
	want(t, "together", all(points.Together(s, 3)), "[[0 1 0 2 3 4 3 5] 0]")
	want(t, "together", all(points.Together(s, 0)), "[[0 0 0 0 0 0 0 0] 0]")
	want(t, "together", all(points.Together(s, 4)), "[[] 2]")
	want(t, "reach", all(points.Reach(s, 3)), "[[0 1 0 1 0 1 0 1] 0]")
	want(t, "reach", all(points.Reach(s, 2)), "[[0 1 0 1 2 3 2 3] 0]")
	want(t, "reach", all(points.Reach(s, 0)), "[[0 1 2 3 4 5 6 7] 0]")
	want(t, "reach", all(points.Reach(s, -1)), "[[] 2]")
	rule := api.Rule{Out: []int{-1, -1, 0, 0, 1, -1, 1, 0}}
	for text, set := range map[string][]int{
		"true": {0, 1, 2, 3, 4, 5, 6, 7}, "heard(0, 1)": {3, 7}, "heard(0, 0)": {0, 1, 2, 3, 4, 5, 6, 7}, "heard(1, 0)": {1, 3, 5, 7}, "input(1, 1)": {4, 5, 6, 7}, "input(0, 1)": nil, "given(1)": {4, 5, 6, 7}, "given(0)": {0, 1, 2, 3, 4, 5, 6, 7},
		"at(1)": {1, 3, 5, 7}, "at(2)": nil, "faulty(0)": nil, "decided(0, 0)": {1, 5, 7}, "decided(0, 1)": {3}, "decided(1, 1)": {5, 7},
	} {
		want(t, text, pointsOf(points.Atom(s, rule, formulaOf(t, text, 2))), set)
	}
	want(t, "nobody", pointsOf(points.Atom(s, api.Rule{}, formulaOf(t, "decided(0, 0)", 2))), "[]")
	want(t, "shape", all(points.Atom(s, api.Rule{Out: []int{0}}, api.Formula{Op: 99})), "[[] 15]")
	want(t, "check", all(points.Atom(s, rule, formulaOf(t, "faulty(2)", 3))), "[[] 2]")
	want(t, "use", all(points.Atom(s, rule, formulaOf(t, "not true", 2))), "[[] 11]")
	crash := systemOf(t, consensusOf(t, 0), adversaryOf(t, 2, "0 01 !0 > 1, 01 01", "0 1 !0"), 2)
	want(t, "faulty", pointsOf(points.Atom(crash, api.Rule{}, formulaOf(t, "faulty(0)", 2))), "[1 2 5]")
}

// P36.3: consequences.
func TestPointsLaws(t *testing.T) {
	s := crashSystem(t, 2)
	n, _ := points.Count(s)
	for i := range n {
		e, k, _ := points.Place(s, i%97*5)
		want(t, "number", all(points.Number(s, e, k)), all(i%97*5, api.OK))
		if i > 20 {
			break
		}
	}
	for p := range 3 {
		l, _ := points.Classes(s, p)
		for i := range n - 1 {
			k := (i*31 + 7) % (n - 1)
			if l[i] != l[k] && i%3 < 2 && k%3 < 2 {
				want(t, "remember", l[i+1] != l[k+1], true)
			}
		}
		for group := range 8 {
			together, _ := points.Together(s, group)
			reach, _ := points.Reach(s, group)
			if group>>p&1 == 1 {
				want(t, "together", all(partition.Finer(together, l)), "[true 0]")
				want(t, "reach", all(partition.Finer(l, reach)), "[true 0]")
			}
			more, _ := points.Together(s, group|1<<p)
			want(t, "more", all(partition.Finer(more, together)), "[true 0]")
			wider, _ := points.Reach(s, group|1<<p)
			want(t, "wider", all(partition.Finer(reach, wider)), "[true 0]")
		}
		for q := range 3 {
			set, _ := points.Atom(s, api.Rule{}, api.Formula{Op: api.FormulaHeard, Proc: p, Other: q})
			for i, heard := range set {
				if i%3 == 0 {
					want(t, "own", heard, p == q)
				} else if set[i-1] {
					want(t, "for ever", heard, true)
				}
			}
		}
	}
}
