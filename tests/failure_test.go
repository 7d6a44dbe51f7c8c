package tests

import (
	"testing"

	"roundtable/adversary"
	"roundtable/api"
	"roundtable/failure"
	"roundtable/graph"
	"roundtable/permutation"
	"roundtable/round"
)

// P17.1: Crash, Send, Receive and Omit.
func TestFailureFaults(t *testing.T) {
	want(t, "crash", sketchAdversary(failure.Crash(2, 1)), "0 1 !0 > 1, 0 1 !1 > 2, 0 01 !0 > 1, 01 1 !1 > 2, 01 01 > 0; 0 1 !0 > 1; 0 1 !1 > 2")
	want(t, "crash", sketchAdversary(failure.Crash(2, 0)), "01 01 > 0")
	want(t, "send", sketchAdversary(failure.Send(2, 1)), "0 01 !1 > 1, 01 1 !0 > 2, 01 01 > 0; 0 01 !1 > 1, 01 01 !1 > 1; 01 1 !0 > 2, 01 01 !0 > 2")
	want(t, "receive", sketchAdversary(failure.Receive(2, 1)), "0 01 !0 > 1, 01 1 !1 > 2, 01 01 > 0; 0 01 !0 > 1, 01 01 !0 > 1; 01 1 !1 > 2, 01 01 !1 > 2")
	want(t, "omit", sketchAdversary(failure.Omit(2, 1)), "0 1 !0 > 1, 0 1 !1 > 2, 0 01 !0 > 1, 0 01 !1 > 2, 01 1 !0 > 1, 01 1 !1 > 2, 01 01 > 0; 0 1 !0 > 1, 0 01 !0 > 1, 01 1 !0 > 1, 01 01 !0 > 1; 0 1 !1 > 2, 0 01 !1 > 2, 01 1 !1 > 2, 01 01 !1 > 2")
	want(t, "omit", sketchAdversary(failure.Omit(1, 1)), "0 > 0")
	want(t, "crash", sketchAdversary(failure.Crash(1, 1)), "0 > 0, 0 !0 > 1; 0 !0 > 1")
	for _, f := range []func(n, f int) (api.Adversary, api.Errno){failure.Crash, failure.Send, failure.Receive, failure.Omit} {
		for _, x := range [][2]int{{0, 0}, {6, 1}, {2, 3}, {2, -1}, {-5, -5}} {
			want(t, "range", all(f(x[0], x[1])), all(api.Adversary{}, api.ErrRange))
		}
	}
	want(t, "limit", all(failure.Send(5, 5)), all(api.Adversary{}, api.ErrLimit))
	want(t, "limit", all(failure.Omit(5, 2)), all(api.Adversary{}, api.ErrLimit))
}

// P17.2: Partition, Snapshot, Graphs and Of.
func TestFailureGraphs(t *testing.T) {
	want(t, "partition", sketchAdversary(failure.Partition(3, 1)), "0 1 2 > 1, 0 12 12 > 1, 01 01 2 > 1, 02 1 02 > 1, 012 012 012 > 0; 012 012 012 > 1")
	want(t, "partition", sketchAdversary(failure.Partition(1, 6)), "0 > 0")
	want(t, "snapshot", sketchAdversary(failure.Snapshot(2)), "0 01 > 0, 01 1 > 0, 01 01 > 0")
	want(t, "graphs", sketchAdversary(failure.Graphs(2, condOf(t, "hears(1, 0)"))), "0 01 > 0, 01 01 > 0")
	want(t, "graphs", all(failure.Graphs(2, no)), all(api.Adversary{}, api.ErrEmpty))
	want(t, "graphs", all(failure.Graphs(2, num(1))), all(api.Adversary{}, api.ErrType))
	want(t, "graphs", all(failure.Graphs(5, yes)), all(api.Adversary{}, api.ErrLimit))
	want(t, "graphs", all(failure.Graphs(0, num(1))), all(api.Adversary{}, api.ErrRange))
	want(t, "snapshot", all(failure.Snapshot(6)), all(api.Adversary{}, api.ErrRange))
	for _, x := range [][2]int{{0, 1}, {2, 7}, {2, -1}} {
		want(t, "partition", all(failure.Partition(x[0], x[1])), all(api.Adversary{}, api.ErrRange))
	}
	for op, direct := range []func() (api.Adversary, api.Errno){
		nil, func() (api.Adversary, api.Errno) { return failure.Crash(3, 1) }, func() (api.Adversary, api.Errno) { return failure.Send(3, 1) }, func() (api.Adversary, api.Errno) { return failure.Receive(3, 1) },
		func() (api.Adversary, api.Errno) { return failure.Omit(3, 1) }, func() (api.Adversary, api.Errno) { return failure.Partition(3, 1) },
	} {
		if op > 0 {
			want(t, "of", sketchAdversary(failure.Of(3, api.Scheme{Op: op, Num: 1})), sketchAdversary(direct()))
			want(t, "of", all(failure.Of(3, api.Scheme{Op: op, Num: 9})), all(api.Adversary{}, api.ErrRange))
			want(t, "of", all(failure.Of(3, api.Scheme{Op: op, Num: 1, Cond: yes})), all(api.Adversary{}, api.ErrForm))
		}
	}
	want(t, "of", sketchAdversary(failure.Of(2, api.Scheme{Op: api.SchemeSnapshot})), sketchAdversary(failure.Snapshot(2)))
	want(t, "of", sketchAdversary(failure.Of(2, api.Scheme{Op: api.SchemeGraphs, Cond: yes})), sketchAdversary(failure.Graphs(2, yes)))
	for _, x := range []struct {
		n int
		s api.Scheme
		e api.Errno
	}{
		{0, api.Scheme{Op: 99}, api.ErrRange}, {2, api.Scheme{}, api.ErrArg}, {2, api.Scheme{Op: api.SchemeOr}, api.ErrArg}, {2, api.Scheme{Op: 11}, api.ErrArg}, {2, api.Scheme{Op: api.SchemeCrash, Args: make([]api.Scheme, 1)}, api.ErrForm},
		{2, api.Scheme{Op: api.SchemeSnapshot, Num: 1}, api.ErrForm}, {2, api.Scheme{Op: api.SchemeGraphs, Num: 1, Cond: yes}, api.ErrForm}, {2, api.Scheme{Op: api.SchemeGraphs}, api.ErrType},
	} {
		want(t, "of", all(failure.Of(x.n, x.s)), all(api.Adversary{}, x.e))
	}
}

// P17.3: consequences.
func TestFailureLaws(t *testing.T) {
	rules := map[string]func(f int) (api.Adversary, api.Errno){
		"crash":     func(f int) (api.Adversary, api.Errno) { return failure.Crash(3, f) },
		"send":      func(f int) (api.Adversary, api.Errno) { return failure.Send(3, f) },
		"receive":   func(f int) (api.Adversary, api.Errno) { return failure.Receive(3, f) },
		"omit":      func(f int) (api.Adversary, api.Errno) { return failure.Omit(3, f) },
		"partition": func(f int) (api.Adversary, api.Errno) { return failure.Partition(3, f) },
		"snapshot":  func(int) (api.Adversary, api.Errno) { return failure.Snapshot(3) },
	}
	perms, _ := permutation.All(3)
	for name, rule := range rules {
		a, e := rule(1)
		good(t, name, e)
		want(t, name, adversary.Check(a), api.OK)
		more, e := rule(2)
		good(t, name, e)
		l, _ := adversary.Words(a, 2)
		for _, w := range l {
			want(t, name+" more", all(adversary.Allows(more, w)), "[true 0]")
			for _, pi := range perms {
				var renamed []api.Round
				for _, r := range w {
					s, _ := round.Permute(r, pi)
					renamed = append(renamed, s)
				}
				want(t, name+" renamed", all(adversary.Allows(a, renamed)), "[true 0]")
			}
		}
	}
	crash, _ := failure.Crash(3, 2)
	omit, _ := failure.Omit(3, 2)
	l, _ := adversary.Words(crash, 2)
	for _, w := range l {
		want(t, "omissions", all(adversary.Allows(omit, w)), "[true 0]")
	}
	for n, snapshots := range []int{0, 1, 3, 13, 75, 541} {
		if n == 0 {
			continue
		}
		a, _ := failure.Snapshot(n)
		want(t, "snapshots", len(a.States[0]), snapshots)
		c, _ := failure.Crash(n, 1)
		want(t, "crashes", len(c.States[0]), 1+n<<(n-1))
	}
	a, _ := failure.Snapshot(3)
	graphs, _ := graph.All(3)
	for _, g := range graphs {
		is := true
		for _, x := range g.Hears[:3] {
			for q, y := range g.Hears[:3] {
				is = is && (x|y == x || x|y == y) && (x>>q&1 == 0 || y&^x == 0)
			}
		}
		want(t, "snapshot", all(adversary.Allows(a, []api.Round{{Graph: g}})), all(is, api.OK))
	}
}
