package tests

import (
	"testing"

	"roundtable/api"
	"roundtable/common"
	"roundtable/knowledge"
	"roundtable/partition"
	"roundtable/points"
)

// P39.1: Components, Held and Radius.
func TestCommonComponents(t *testing.T) {
	s := exampleSystem(t)
	set := setOf(8, 4, 5, 6, 7)
	want(t, "components", all(common.Components(s, 3)), "[[0 1 0 1 0 1 0 1] 0]")
	want(t, "components", all(common.Components(s, 0)), "[[0 1 2 3 4 5 6 7] 0]")
	want(t, "components", all(common.Components(s, 4)), "[[] 2]")
	want(t, "held", pointsOf(common.Held(s, 3, set)), "[]")
	want(t, "held", pointsOf(common.Held(s, 2, set)), "[4 5 6 7]")
	want(t, "held", pointsOf(common.Held(s, 0, setOf(8, 1))), "[1]")
	want(t, "radius", all(common.Radius(s, 3, set)), "[[0 0 0 0 1 1 1 2] 0]")
	want(t, "radius", all(common.Radius(s, 2, set)), "[[0 0 0 0 -1 -1 -1 -1] 0]")
	for _, bad := range []int{-1, 4} {
		want(t, "held", all(common.Held(s, bad, nil)), "[[] 2]")
		want(t, "radius", all(common.Radius(s, bad, nil)), "[[] 2]")
		want(t, "witness", all(common.Witness(s, bad, 9, nil)), "[[] false 2]")
		want(t, "verify", common.Verify(s, bad, nil, nil), api.ErrRange)
	}
	want(t, "shape", all(common.Held(s, 0, nil)), "[[] 15]")
	want(t, "shape", all(common.Radius(s, 0, set[:7])), "[[] 15]")
	for _, x := range badSystems(t) {
		want(t, "components", all(common.Components(x.s, -1)), all([]int{}, x.e))
		want(t, "held", all(common.Held(x.s, -1, nil)), all([]int{}, x.e))
		want(t, "radius", all(common.Radius(x.s, -1, nil)), all([]int{}, x.e))
		want(t, "witness", all(common.Witness(x.s, -1, -1, nil)), all([]int{}, false, x.e))
		want(t, "verify", common.Verify(x.s, -1, nil, nil), x.e)
	}
}

// P39.2: Witness and Verify.
func TestCommonWalks(t *testing.T) {
	s := exampleSystem(t)
	set := setOf(8, 4, 5, 6, 7)
	want(t, "witness", all(common.Witness(s, 3, 7, set)), "[[{7 -1} {5 1} {1 0}] true 0]")
	want(t, "witness", all(common.Witness(s, 3, 0, set)), "[[{0 -1}] true 0]")
	want(t, "witness", all(common.Witness(s, 0, 0, set)), "[[{0 -1}] true 0]")
	three := systemOf(t, crashSystem(t, 0).Problem.Task, adversaryOf(t, 3, "0 1 2, 0 1 12"), 1)
	n, _ := points.Count(three)
	most := make([]bool, n)
	for i := range most {
		most[i] = i != 3
	}
	want(t, "least process", all(common.Witness(three, 7, 1, most)), "[[{1 -1} {3 0}] true 0]")
	want(t, "least process", all(common.Witness(three, 6, 1, most)), "[[{1 -1} {3 1}] true 0]")
	want(t, "witness", all(common.Witness(s, 0, 7, set)), "[[] false 0]")
	want(t, "witness", all(common.Witness(s, 2, 7, set)), "[[] false 0]")
	want(t, "witness", all(common.Witness(s, 3, 8, nil)), "[[] false 15]")
	want(t, "witness", all(common.Witness(s, 3, 8, set)), "[[] false 6]")
	for i, x := range []struct {
		group int
		walk  []common.Step
		e     api.Errno
	}{
		{3, nil, api.ErrEmpty}, {3, make([]common.Step, api.MaxSteps+1), api.ErrMany}, {3, make([]common.Step, api.MaxSteps), api.ErrForm}, {3, []common.Step{{Point: 8, Proc: 0}}, api.ErrNone}, {3, []common.Step{{Point: 0, Proc: 0}}, api.ErrForm}, {1, []common.Step{{Point: 7, Proc: -1}, {Point: 5, Proc: 1}}, api.ErrRange},
		{3, []common.Step{{Point: 7, Proc: -1}, {Point: 5, Proc: 2}}, api.ErrRange}, {3, []common.Step{{Point: 7, Proc: -1}, {Point: 5, Proc: 0}}, api.ErrProof}, {3, []common.Step{{Point: 7, Proc: -1}, {Point: 5, Proc: 1}}, api.ErrProof},
		{3, []common.Step{{Point: 7, Proc: -1}, {Point: 5, Proc: 1}, {Point: 1, Proc: 0}}, api.OK}, {0, []common.Step{{Point: 1, Proc: -1}}, api.OK}, {3, []common.Step{{Point: 7, Proc: -1}, {Point: -1, Proc: 9}}, api.ErrNone},
	} {
		want(t, string(rune('a'+i)), common.Verify(s, x.group, set, x.walk), x.e)
	}
	want(t, "shape", common.Verify(s, 3, nil, nil), api.ErrShape)
}

// P39.3: consequences.
func TestCommonLaws(t *testing.T) {
	s := crashSystem(t, 1)
	n, _ := points.Count(s)
	var random source
	for range 4 {
		set := make([]bool, n)
		for i := range n {
			set[i] = random.below(14) > 0
		}
		for group := 1; group < 8; group++ {
			c, _, _ := knowledge.Common(s, group, set)
			want(t, "held", all(common.Held(s, group, set)), all(c, api.OK))
			levels, _ := knowledge.Levels(s, group, set)
			radius, _ := common.Radius(s, group, set)
			for i, r := range radius {
				if r < 0 {
					r = n + 1
				}
				want(t, "level", levels[i], r-1)
			}
			wider, _ := common.Components(s, group|1)
			l, _ := common.Components(s, group)
			want(t, "coarser", all(partition.Finer(l, wider)), "[true 0]")
			for i := 0; i < n; i += 13 {
				walk, ok, _ := common.Witness(s, group, i, set)
				want(t, "witness", ok, !c[i])
				if ok {
					want(t, "accepted", common.Verify(s, group, set, walk), api.OK)
					seen := map[int]bool{}
					for _, x := range walk {
						seen[x.Point] = true
						want(t, "rounds", x.Point%2, i%2)
					}
					want(t, "once", len(seen), len(walk))
				}
			}
		}
	}
}
