package tests

import (
	"testing"

	"roundtable/api"
	"roundtable/indistinct"
	"roundtable/partition"
)

// P25.1: Linked, Classes and Components.
func TestIndistinctClasses(t *testing.T) {
	s := exampleSystem(t)
	want(t, "linked", all(indistinct.Linked(s, 0, 2)), "[1 0]")
	want(t, "linked", all(indistinct.Linked(s, 0, 1)), "[2 0]")
	want(t, "linked", all(indistinct.Linked(s, 0, 3)), "[0 0]")
	want(t, "linked", all(indistinct.Linked(s, 1, 1)), "[3 0]")
	want(t, "linked", all(indistinct.Linked(s, 0, 4)), "[0 6]")
	want(t, "linked", all(indistinct.Linked(s, -1, 0)), "[0 6]")
	want(t, "classes", all(indistinct.Classes(s, 0)), "[[0 1 0 2] 0]")
	want(t, "classes", all(indistinct.Classes(s, 1)), "[[0 0 1 1] 0]")
	want(t, "classes", all(indistinct.Classes(s, 2)), "[[] 2]")
	want(t, "classes", all(indistinct.Classes(s, -1)), "[[] 2]")
	want(t, "components", all(indistinct.Components(s)), "[[0 0 0 0] 0]")
	faulty := systemOf(t, consensusOf(t, 0, 1), adversaryOf(t, 2, "0 01 !0"), 1)
	want(t, "faulty", all(indistinct.Linked(faulty, 0, 1)), "[0 0]")
	want(t, "faulty", all(indistinct.Linked(faulty, 0, 0)), "[2 0]")
	want(t, "faulty", all(indistinct.Classes(faulty, 0)), "[[0 1] 0]")
	want(t, "faulty", all(indistinct.Components(faulty)), "[[0 1] 0]")
	for _, x := range badSystems(t) {
		want(t, "linked", all(indistinct.Linked(x.s, -1, 0)), all(0, x.e))
		want(t, "classes", all(indistinct.Classes(x.s, -1)), all([]int{}, x.e))
		want(t, "components", all(indistinct.Components(x.s)), all([]int{}, x.e))
		want(t, "walk", all(indistinct.Walk(x.s, -1, 0)), all([]int{}, false, x.e))
		want(t, "distance", all(indistinct.Distance(x.s, -1, 0)), all(0, false, x.e))
		want(t, "verify", indistinct.Verify(x.s, nil), x.e)
	}
}

// P25.2: Walk, Distance and Verify.
func TestIndistinctWalks(t *testing.T) {
	s := exampleSystem(t)
	want(t, "walk", all(indistinct.Walk(s, 1, 3)), "[[{1 -1} {0 1} {2 0} {3 1}] true 0]")
	want(t, "walk", all(indistinct.Walk(s, 2, 2)), "[[{2 -1}] true 0]")
	want(t, "walk", all(indistinct.Walk(s, 2, 4)), "[[] false 6]")
	want(t, "distance", all(indistinct.Distance(s, 1, 3)), "[3 true 0]")
	want(t, "distance", all(indistinct.Distance(s, 1, 1)), "[0 true 0]")
	want(t, "distance", all(indistinct.Distance(s, 4, 1)), "[0 false 6]")
	// Processes 0 and 1 cannot tell whether process 2 hears process 1.
	three := systemOf(t, crashSystem(t, 0).Problem.Task, adversaryOf(t, 3, "0 1 2, 0 1 12"), 1)
	want(t, "both", all(indistinct.Linked(three, 0, 1)), "[3 0]")
	want(t, "least process", all(indistinct.Walk(three, 0, 1)), "[[{0 -1} {1 0}] true 0]")
	apart := systemOf(t, consensusOf(t, 0, 3), adversaryOf(t, 2, "01 01"), 1)
	want(t, "apart", all(indistinct.Walk(apart, 0, 1)), "[[] false 0]")
	want(t, "apart", all(indistinct.Distance(apart, 0, 1)), "[0 false 0]")
	for _, x := range []struct {
		walk []api.Link
		e    api.Errno
	}{
		{nil, api.ErrEmpty}, {make([]api.Link, 4097), api.ErrMany}, {[]api.Link{{Execution: 4}}, api.ErrNone}, {[]api.Link{{Execution: 0}}, api.ErrForm}, {[]api.Link{{Execution: 0, Proc: -1}, {Execution: 4, Proc: 9}}, api.ErrNone},
		{[]api.Link{{Execution: 0, Proc: -1}, {Execution: 1, Proc: 2}}, api.ErrRange}, {[]api.Link{{Execution: 0, Proc: -1}, {Execution: 1, Proc: 0}}, api.ErrProof}, {[]api.Link{{Execution: 0, Proc: -1}, {Execution: 1, Proc: 1}, {Execution: 1, Proc: 0}}, api.OK},
	} {
		want(t, "verify", indistinct.Verify(s, x.walk), x.e)
	}
}

// P25.3: consequences.
func TestIndistinctLaws(t *testing.T) {
	for _, s := range []api.System{lossySystem(t), crashSystem(t, 1)} {
		components, _ := indistinct.Components(s)
		join, _ := indistinct.Classes(s, 0)
		for p := 1; p < s.Table.N; p++ {
			l, _ := indistinct.Classes(s, p)
			join, _ = partition.Join(join, l)
		}
		want(t, "components", components, join)
		number := len(s.Executions)
		for e := 0; e < number; e += 1 + number/12 {
			for f := 0; f < number; f += 1 + number/9 {
				walk, ok, _ := indistinct.Walk(s, e, f)
				want(t, "connected", ok, components[e] == components[f])
				d, _, _ := indistinct.Distance(s, e, f)
				want(t, "symmetric", all(indistinct.Distance(s, f, e)), all(d, ok, api.OK))
				if !ok {
					continue
				}
				want(t, "accepted", indistinct.Verify(s, walk), api.OK)
				want(t, "steps", len(walk), d+1)
				seen := map[int]bool{}
				back := []api.Link{{Execution: f, Proc: -1}}
				for i := len(walk) - 1; i >= 0; i-- {
					seen[walk[i].Execution] = true
					if i > 0 {
						back = append(back, api.Link{Execution: walk[i-1].Execution, Proc: walk[i].Proc})
					}
				}
				want(t, "back", indistinct.Verify(s, back), api.OK)
				want(t, "once", len(seen), len(walk))
				set, _ := indistinct.Linked(s, e, f)
				want(t, "linked", d == 1, set != 0 && e != f)
			}
		}
	}
}
