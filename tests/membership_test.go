package tests

import (
	"slices"
	"testing"

	"roundtable/api"
	"roundtable/decide"
	"roundtable/failure"
	"roundtable/library"
	"roundtable/machine"
	"roundtable/membership"
)

// solverOf makes the machine of the consensus of n processes under an adversary.
func solverOf(t *testing.T, n, values int, a api.Adversary, rounds int) api.Machine {
	t.Helper()
	x, e := library.Consensus(n, values)
	good(t, "consensus", e)
	p := api.Problem{Task: x, Adversary: a, Rounds: rounds}
	_, r, _, e := decide.Decide(p)
	good(t, "decide", e)
	m, e := machine.Synthesize(systemOf(t, x, a, rounds), r)
	good(t, "machine", e)
	return m
}

// firstMachine is a machine of two processes, which both decide the input of process 0 after a round.
func firstMachine() api.Machine {
	m := api.Machine{N: 2, Rounds: 1, Ins: 2, Outs: 2, First: [][]int{{0, 1}, {0, 1}}, Out: [][][]int{{{-1, -1}, {-1, -1}}, {{0, 1}, {0, 1}}}, Symbols: [][][][]int{{{nil, {0, 1}}, {{0, 0}, nil}}}}
	for own := range 2 {
		m.Steps = append(m.Steps, api.Step{Proc: 0, Heard: [5]int{own, 0, -1, -1, -1}, To: own})
	}
	for other := range 2 {
		for own := range 2 {
			m.Steps = append(m.Steps, api.Step{Proc: 1, Heard: [5]int{other, own, -1, -1, -1}, To: other})
		}
	}
	return m
}

// pairService is the service of the examples of layer 59.
func pairService(t *testing.T) api.Service {
	t.Helper()
	one := api.Machine{N: 1, Ins: 2, Outs: 2, First: [][]int{{0, 1}}, Out: [][][]int{{{0, 1}}}}
	s := api.Service{N: 2, Machines: []api.Machine{one, firstMachine()}, Adversaries: []api.Adversary{adversaryOf(t, 1, "0"), adversaryOf(t, 2, "01 01")}}
	good(t, "service", membership.Check(s))
	return s
}

type badService struct {
	s api.Service
	e api.Errno
}

func badServices(t *testing.T) []badService {
	changed := func(e api.Errno, change func(s *api.Service)) badService {
		s := pairService(t)
		change(&s)
		return badService{s, e}
	}
	return []badService{
		{api.Service{}, api.ErrRange}, {api.Service{N: 6}, api.ErrRange}, changed(api.ErrShape, func(s *api.Service) { s.Machines = s.Machines[1:] }), changed(api.ErrShape, func(s *api.Service) { s.Adversaries = nil }), changed(api.ErrRange, func(s *api.Service) { s.Machines[1].N = 0 }),
		changed(api.ErrMany, func(s *api.Service) { s.Adversaries[0].States = nil }), changed(api.ErrMismatch, func(s *api.Service) { s.Machines[1] = s.Machines[0] }), changed(api.ErrMismatch, func(s *api.Service) { s.Adversaries[0] = s.Adversaries[1] }),
	}
}

type badGroup struct {
	g api.Group
	e api.Errno
}

func badGroups(t *testing.T) []badGroup {
	changed := func(e api.Errno, change func(g *api.Group)) badGroup {
		g, _ := membership.Begin(pairService(t), 1)
		change(&g)
		return badGroup{g, e}
	}
	return []badGroup{
		changed(api.ErrRange, func(g *api.Group) { g.Epoch = -1 }), changed(api.ErrRange, func(g *api.Group) { g.Epoch = 1024 }), changed(api.ErrRange, func(g *api.Group) { g.Set = 0 }), changed(api.ErrRange, func(g *api.Group) { g.Set = 4 }), changed(api.ErrShape, func(g *api.Group) { g.Members = g.Members[1:] }),
		changed(api.ErrForm, func(g *api.Group) { g.Members[0].History = nil }), changed(api.ErrForm, func(g *api.Group) { g.Members[1].Halted = true }), changed(api.ErrForm, func(g *api.Group) { g.Members[1].History = []int{1} }), changed(api.ErrForm, func(g *api.Group) { g.Set = 3 }),
		changed(api.ErrMany, func(g *api.Group) { g.Members[0].History = []int{1, 1} }), changed(api.ErrRange, func(g *api.Group) { g.Members[0].History = []int{4} }), changed(api.ErrForm, func(g *api.Group) { g.Members[0].History = []int{3} }), changed(api.ErrForm, func(g *api.Group) { g.Epoch = 1 }),
	}
}

// P59.1: Check, Begin, State, Schedules and Agree.
func TestMembershipGroups(t *testing.T) {
	s := pairService(t)
	g, e := membership.Begin(s, 3)
	want(t, "begin", all(g, e), "[{0 3 [{true false [3]} {true false [3]}]} 0]")
	g, e = membership.Begin(s, 2)
	want(t, "begin", all(g, e), "[{0 2 [{false false []} {true false [2]}]} 0]")
	want(t, "state", membership.State(s, g), api.OK)
	want(t, "schedules", all(membership.Schedules(s, g)), "[[[]] 0]")
	want(t, "agree", all(membership.Agree(s, g)), "[true 0]")
	want(t, "begin", all(membership.Begin(s, 0)), all(api.Group{}, api.ErrRange))
	want(t, "begin", all(membership.Begin(s, 4)), all(api.Group{}, api.ErrRange))
	g, _ = membership.Begin(s, 3)
	want(t, "state", membership.State(s, g), api.OK)
	want(t, "schedules", all(membership.Schedules(s, g)), all([][]api.Round{wordOf(t, 2, "01 01")}, api.OK))
	want(t, "agree", all(membership.Agree(s, g)), "[true 0]")
	g.Members[1].Halted = true
	want(t, "halted", all(membership.Schedules(s, g)), "[[] 16]")
	g.Members[0].Halted = true
	want(t, "halted", all(membership.Schedules(s, g)), "[[] 27]")
	faulty := s
	faulty.Adversaries = []api.Adversary{s.Adversaries[0], adversaryOf(t, 2, "01 01, 0 01 !0 > 1", "0 1 !0")}
	g, _ = membership.Begin(faulty, 3)
	g.Members[0].Halted = true
	want(t, "faulty", all(membership.Schedules(faulty, g)), all([][]api.Round{wordOf(t, 2, "0 01 !0")}, api.OK))
	differ := api.Group{Epoch: 1, Set: 1, Members: []api.Member{{Joined: true, History: []int{3, 1}}, {Joined: true, History: []int{3}}}}
	want(t, "agree", all(membership.Agree(s, differ)), "[true 0]")
	differ.Members[1].History = []int{2}
	want(t, "agree", all(membership.Agree(s, differ)), "[false 0]")
	live := api.Group{Epoch: 1, Set: 3, Members: []api.Member{{Joined: true, History: []int{1, 3}}, {Joined: true, History: []int{2, 3}}}}
	want(t, "agree", all(membership.Agree(s, live)), "[false 0]")
	for _, x := range badServices(t) {
		want(t, "check", membership.Check(x.s), x.e)
		want(t, "begin", all(membership.Begin(x.s, 0)), all(api.Group{}, x.e))
		want(t, "state", membership.State(x.s, api.Group{}), x.e)
		want(t, "schedules", all(membership.Schedules(x.s, api.Group{})), all([]int{}, x.e))
		want(t, "agree", all(membership.Agree(x.s, api.Group{})), all(false, x.e))
		want(t, "epoch", all(membership.Epoch(x.s, api.Group{}, api.Epoch{})), all(api.Group{}, []int{}, x.e))
		want(t, "run", all(membership.Run(x.s, 0, nil)), all(api.Group{}, 0, x.e))
	}
	for i, x := range badGroups(t) {
		name := string(rune('a' + i))
		want(t, name, membership.State(s, x.g), x.e)
		want(t, name, all(membership.Schedules(s, x.g)), all([]int{}, x.e))
		want(t, name, all(membership.Agree(s, x.g)), all(false, x.e))
		want(t, name, all(membership.Epoch(s, x.g, api.Epoch{})), all(api.Group{}, []int{}, x.e))
	}
}

// P59.2: Epoch and Run.
func TestMembershipEpochs(t *testing.T) {
	s := pairService(t)
	both, _ := membership.Begin(s, 3)
	leave := api.Epoch{Changes: []api.Change{{Proc: -1}, {Proc: 1}}, Proposals: []int{1, 0}, Word: wordOf(t, 2, "01 01")}
	g, decisions, e := membership.Epoch(s, both, leave)
	want(t, "leaves", all(g, decisions, e), "[{1 1 [{true false [3 1]} {true false [3 1]}]} [1 1] 0]")
	join := api.Epoch{Changes: []api.Change{{Proc: 1}}, Proposals: []int{0}}
	again, _, e := membership.Epoch(s, g, join)
	want(t, "joins", all(again, e), "[{2 3 [{true false [3 1 3]} {true false [3 1 3]}]} 0]")
	want(t, "run", all(membership.Run(s, 3, []api.Epoch{leave, join})), all(again, 2, api.OK))
	want(t, "new", all(membership.Run(s, 1, []api.Epoch{join})), "[{1 3 [{true false [1 3]} {true false [1 3]}]} 1 0]")
	want(t, "run", all(membership.Run(s, 3, []api.Epoch{leave, leave, join})), all(api.Group{}, 1, api.ErrShape))
	want(t, "run", all(membership.Run(s, 4, nil)), all(api.Group{}, 0, api.ErrRange))
	want(t, "run", all(membership.Run(s, 3, nil)), all(both, 0, api.OK))
	want(t, "empty", all(membership.Epoch(s, g, api.Epoch{Changes: []api.Change{{Proc: 0}}, Proposals: []int{0}})), all(api.Group{}, []int{}, api.ErrEmpty))
	nothing := leave
	nothing.Proposals = []int{0, 1}
	g, _, e = membership.Epoch(s, both, nothing)
	want(t, "nothing", all(g, e), "[{1 3 [{true false [3 3]} {true false [3 3]}]} 0]")
	changed := func(change func(e *api.Epoch)) api.Epoch {
		x := leave
		change(&x)
		return x
	}
	for i, x := range []struct {
		epoch api.Epoch
		e     api.Errno
	}{
		{changed(func(x *api.Epoch) { x.Changes = nil }), api.ErrMany}, {changed(func(x *api.Epoch) { x.Changes = make([]api.Change, 9) }), api.ErrMany}, {changed(func(x *api.Epoch) { x.Changes = []api.Change{{Proc: 2}} }), api.ErrRange}, {changed(func(x *api.Epoch) { x.Changes = []api.Change{{Proc: -2}} }), api.ErrRange},
		{changed(func(x *api.Epoch) { x.Proposals = []int{1} }), api.ErrShape}, {changed(func(x *api.Epoch) { x.Proposals = []int{1, 2} }), api.ErrRange}, {changed(func(x *api.Epoch) { x.Word = nil }), api.ErrSchedule}, {changed(func(x *api.Epoch) { x.Word = wordOf(t, 2, "0 1") }), api.ErrSchedule}, {changed(func(x *api.Epoch) { x.Word = wordOf(t, 2, "01 01 / 01 01") }), api.ErrSchedule},
		{changed(func(x *api.Epoch) {
			x.Changes, x.Proposals = []api.Change{{Proc: -1}, {Proc: 1}, {Proc: 0}}, []int{2, 0}
		}), api.ErrRange},
	} {
		want(t, string(rune('a'+i)), all(membership.Epoch(s, both, x.epoch)), all(api.Group{}, []int{}, x.e))
	}
	broken := func(change func(m *api.Machine)) api.Service {
		x := pairService(t)
		change(&x.Machines[1])
		return x
	}
	want(t, "play", all(membership.Epoch(broken(func(m *api.Machine) { m.Steps = m.Steps[1:] }), both, nothing)), all(api.Group{}, []int{}, api.ErrGap))
	want(t, "gap", all(membership.Epoch(broken(func(m *api.Machine) { m.Out[1][1][1] = -1 }), both, leave)), all(api.Group{}, []int{}, api.ErrGap))
	want(t, "mismatch", all(membership.Epoch(broken(func(m *api.Machine) { m.Out[1][1][1] = 0 }), both, leave)), all(api.Group{}, []int{}, api.ErrMismatch))
	same := leave
	same.Changes = []api.Change{{Proc: 1}, {Proc: 1}}
	_, _, e = membership.Epoch(broken(func(m *api.Machine) { m.Out[1][1][1] = 0 }), both, same)
	want(t, "same change", e, api.OK)
	want(t, "range", all(membership.Epoch(broken(func(m *api.Machine) { m.Outs, m.Out[1][0][1] = 3, 2 }), both, leave)), all(api.Group{}, []int{}, api.ErrRange))
	old := both
	old.Epoch = api.MaxList - 1
	old.Members = []api.Member{{Joined: true, History: slices.Repeat([]int{3}, 1024)}, {Joined: true, History: slices.Repeat([]int{3}, 1024)}}
	want(t, "many", all(membership.Epoch(s, old, leave)), all(api.Group{}, []int{}, api.ErrMany))
	halted := both
	halted.Members = []api.Member{{Joined: true, Halted: true, History: []int{3}}, {Joined: true, Halted: true, History: []int{3}}}
	want(t, "halted", all(membership.Epoch(s, halted, leave)), all(api.Group{}, []int{}, api.ErrHalted))
	halted.Members = []api.Member{{Joined: true, History: []int{3}}, {Joined: true, Halted: true, History: []int{3}}}
	want(t, "halted", all(membership.Epoch(s, halted, leave)), all(api.Group{}, []int{}, api.ErrSchedule))
	crash := s
	crash.Adversaries = []api.Adversary{s.Adversaries[0], adversaryOf(t, 2, "01 01, 01 01 !0 > 1, 01 01 !01 > 2", "0 1 !0", "0 1 !01")}
	g, _, e = membership.Epoch(crash, both, changed(func(x *api.Epoch) { x.Word = wordOf(t, 2, "01 01 !0") }))
	want(t, "crash", all(g, e), "[{1 1 [{true true [3]} {true false [3 1]}]} 0]")
	g, _, e = membership.Epoch(crash, both, changed(func(x *api.Epoch) { x.Word = wordOf(t, 2, "01 01 !01") }))
	want(t, "all crash", all(g, e), "[{1 3 [{true true [3]} {true true [3]}]} 0]")
}

// P59.3: consequences.
func TestMembershipLaws(t *testing.T) {
	s := api.Service{N: 3}
	for n := 1; n <= 3; n++ {
		a, _ := failure.Crash(n, min(n-1, 1))
		s.Adversaries = append(s.Adversaries, a)
		s.Machines = append(s.Machines, solverOf(t, n, 3, a, min(n, 2)))
	}
	good(t, "service", membership.Check(s))
	var random source
	changes := []api.Change{{Proc: -1}, {Proc: 1}, {Proc: 2}}
	for range 15 {
		g, _ := membership.Begin(s, 7)
		for range 6 {
			words, e := membership.Schedules(s, g)
			if e != api.OK {
				break
			}
			before := g
			x := api.Epoch{Changes: changes, Word: words[random.below(len(words))]}
			for p := range 3 {
				if g.Set>>p&1 == 1 {
					x.Proposals = append(x.Proposals, random.below(3))
				}
			}
			g, _, e = membership.Epoch(s, g, x)
			if e == api.ErrEmpty {
				break
			}
			good(t, "epoch", e)
			want(t, "state", membership.State(s, g), api.OK)
			want(t, "agree", all(membership.Agree(s, g)), "[true 0]")
			difference := g.Set ^ before.Set
			want(t, "one", difference&(difference-1), 0)
			for p, m := range g.Members {
				old := before.Members[p]
				joins := g.Set&^before.Set>>p&1 == 1
				want(t, "grows", joins || len(m.History) <= len(old.History)+1, true)
				want(t, "halted", joins || !old.Halted || m.Halted && slices.Equal(m.History, old.History), true)
			}
		}
	}
}
