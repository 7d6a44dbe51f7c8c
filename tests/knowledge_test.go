package tests

import (
	"testing"

	"roundtable/api"
	"roundtable/knowledge"
	"roundtable/points"
)

// setOf makes a set of n points.
func setOf(n int, l ...int) []bool {
	set := make([]bool, n)
	for _, i := range l {
		set[i] = true
	}
	return set
}

// P37.1: Knows, Everyone and Distributed.
func TestKnowledgeGroups(t *testing.T) {
	s := exampleSystem(t)
	set := setOf(8, 4, 5, 6, 7)
	want(t, "knows", pointsOf(knowledge.Knows(s, 1, set)), "[4 5 6 7]")
	want(t, "knows", pointsOf(knowledge.Knows(s, 0, set)), "[7]")
	want(t, "everyone", pointsOf(knowledge.Everyone(s, 3, set)), "[7]")
	want(t, "everyone", pointsOf(knowledge.Everyone(s, 2, set)), "[4 5 6 7]")
	want(t, "everyone", pointsOf(knowledge.Everyone(s, 0, setOf(8))), "[0 1 2 3 4 5 6 7]")
	want(t, "distributed", pointsOf(knowledge.Distributed(s, 3, set)), "[4 5 6 7]")
	want(t, "distributed", pointsOf(knowledge.Distributed(s, 3, setOf(8, 0, 7))), "[7]")
	want(t, "distributed", pointsOf(knowledge.Distributed(s, 0, set)), "[]")
	want(t, "distributed", pointsOf(knowledge.Distributed(s, 0, setOf(8, 0, 1, 2, 3, 4, 5, 6, 7))), "[0 1 2 3 4 5 6 7]")
	for _, bad := range []int{-1, 4} {
		want(t, "range", all(knowledge.Knows(s, bad, nil)), "[[] 2]")
		want(t, "range", all(knowledge.Everyone(s, bad, nil)), "[[] 2]")
		want(t, "range", all(knowledge.Distributed(s, bad, nil)), "[[] 2]")
		want(t, "range", all(knowledge.Common(s, bad, nil)), "[[] 0 2]")
		want(t, "range", all(knowledge.Levels(s, bad, nil)), "[[] 2]")
	}
	want(t, "shape", all(knowledge.Knows(s, 0, nil)), "[[] 15]")
	want(t, "shape", all(knowledge.Everyone(s, 0, set[:7])), "[[] 15]")
	want(t, "shape", all(knowledge.Distributed(s, 0, set[:7])), "[[] 15]")
	for _, x := range badSystems(t) {
		want(t, "knows", all(knowledge.Knows(x.s, -1, nil)), all([]int{}, x.e))
		want(t, "everyone", all(knowledge.Everyone(x.s, -1, nil)), all([]int{}, x.e))
		want(t, "distributed", all(knowledge.Distributed(x.s, -1, nil)), all([]int{}, x.e))
		want(t, "common", all(knowledge.Common(x.s, -1, nil)), all([]int{}, 0, x.e))
		want(t, "levels", all(knowledge.Levels(x.s, -1, nil)), all([]int{}, x.e))
		want(t, "eval", all(knowledge.Eval(x.s, api.Rule{Out: []int{1}}, api.Formula{})), all([]int{}, x.e))
	}
}

// P37.2: Common, Levels and Eval.
func TestKnowledgeCommon(t *testing.T) {
	s := exampleSystem(t)
	set := setOf(8, 4, 5, 6, 7)
	c, k, e := knowledge.Common(s, 3, set)
	want(t, "common", all(pointsOf(c, e), k), "[[] 2]")
	c, k, e = knowledge.Common(s, 3, setOf(8, 1, 3, 5, 7))
	want(t, "common", all(pointsOf(c, e), k), "[[1 3 5 7] 1]")
	c, k, e = knowledge.Common(s, 0, set)
	want(t, "common", all(pointsOf(c, e), k), "[[0 1 2 3 4 5 6 7] 0]")
	want(t, "levels", all(knowledge.Levels(s, 3, set)), "[[-1 -1 -1 -1 0 0 0 1] 0]")
	want(t, "levels", all(knowledge.Levels(s, 2, set)), "[[-1 -1 -1 -1 8 8 8 8] 0]")
	want(t, "levels", all(knowledge.Levels(s, 0, set)), "[[-1 -1 -1 -1 8 8 8 8] 0]")
	want(t, "shape", all(knowledge.Common(s, 0, nil)), "[[] 0 15]")
	want(t, "shape", all(knowledge.Levels(s, 0, nil)), "[[] 15]")
	for text, wanted := range map[string][]int{
		"K(1, input(1, 1))": {4, 5, 6, 7}, "not K(0, given(1)) and at(1)": {1, 3, 5}, "C(everyone, at(1))": {1, 3, 5, 7}, "E(everyone, input(1, 1)) or at(0)": {0, 2, 4, 6, 7}, "D(everyone, given(1))": {4, 5, 6, 7}, "K(0, K(1, input(1, 1)))": {7}, "C({}, not true)": {0, 1, 2, 3, 4, 5, 6, 7},
	} {
		want(t, text, pointsOf(knowledge.Eval(s, api.Rule{}, formulaOf(t, text, 2))), wanted)
	}
	want(t, "decided", pointsOf(knowledge.Eval(s, api.Rule{Out: []int{-1, -1, 0, 0, 1, -1, 1, 0}}, formulaOf(t, "K(1, decided(0, 0))", 2))), "[5 7]")
	want(t, "shape", all(knowledge.Eval(s, api.Rule{Out: []int{1}}, api.Formula{Op: 99})), "[[] 15]")
	want(t, "check", all(knowledge.Eval(s, api.Rule{}, api.Formula{Op: 99})), "[[] 1]")
	want(t, "use", all(knowledge.Eval(s, api.Rule{}, formulaOf(t, "K(0, next(true))", 2))), "[[] 11]")
}

// subset reports whether all points of a set are in another one.
func subset(a, b []bool) bool {
	for i := range a {
		if a[i] && !b[i] {
			return false
		}
	}
	return true
}

// P37.3: consequences.
func TestKnowledgeLaws(t *testing.T) {
	s := crashSystem(t, 1)
	n, _ := points.Count(s)
	var random source
	for range 8 {
		a, b, both, complement := make([]bool, n), make([]bool, n), make([]bool, n), make([]bool, n)
		for i := range n {
			a[i], b[i] = random.below(12) > 0, i%2 == 1 || random.below(5) > 0
			both[i] = a[i] && b[i]
		}
		for p := range 3 {
			k, _ := knowledge.Knows(s, p, a)
			want(t, "true", subset(k, a), true)
			want(t, "positive", all(knowledge.Knows(s, p, k)), all(k, api.OK))
			for i := range n {
				complement[i] = !k[i]
			}
			want(t, "negative", all(knowledge.Knows(s, p, complement)), all(complement, api.OK))
			kb, _ := knowledge.Knows(s, p, b)
			for i := range n {
				complement[i] = k[i] && kb[i]
			}
			want(t, "intersection", all(knowledge.Knows(s, p, both)), all(complement, api.OK))
			d, _ := knowledge.Distributed(s, 1<<p|1, a)
			want(t, "distributed", subset(k, d), true)
		}
		for group := 1; group < 8; group++ {
			c, _, _ := knowledge.Common(s, group, b)
			e, _ := knowledge.Everyone(s, group, b)
			want(t, "everyone", subset(c, e) && subset(c, b), true)
			again, _, _ := knowledge.Common(s, group, c)
			want(t, "again", again, c)
			levels, _ := knowledge.Levels(s, group, b)
			for i := range n {
				want(t, "level", levels[i] == n, c[i] && b[i])
			}
		}
	}
}
