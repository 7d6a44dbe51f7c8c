package membership

import (
	"math/bits"
	"slices"

	"roundtable/api"
	"roundtable/fresh"
	"roundtable/machine"
	"roundtable/system"
)

// state is a service with a group, and its members in ascending order.
type state struct {
	api.Service
	group   api.Group
	members []int
	numbers map[int]int
}

// newState returns the state of a group that is known to be right.
func newState(s api.Service, g api.Group) state {
	x := state{Service: s, group: g, numbers: map[int]int{}}
	for p := range s.N {
		if system.Has(g.Set, p) {
			x.numbers[p] = len(x.members)
			x.members = append(x.members, p)
		}
	}
	return x
}

// machine returns the machine for the members.
func (x state) machine() api.Machine { return x.Machines[len(x.members)-1] }

// adversary returns the adversary for the members.
func (x state) adversary() api.Adversary { return x.Adversaries[len(x.members)-1] }

// live returns the live members.
func (x state) live() []int {
	return slices.DeleteFunc(fresh.List(x.members), func(p int) bool { return x.group.Members[p].Halted })
}

// excludes reports whether all members that have halted are faulty in all rounds of a word.
func (x state) excludes(word []api.Round) bool {
	halted := 1<<len(x.members) - 1
	for _, p := range x.live() {
		halted &^= 1 << x.numbers[p]
	}
	return !slices.ContainsFunc(word, func(r api.Round) bool { return halted&^r.Faulty != 0 })
}

// remaining returns the live members that are not faulty behind a word.
func (x state) remaining(word []api.Round) []int {
	faulty := system.Faulty(word)
	return slices.DeleteFunc(x.live(), func(p int) bool { return system.Has(faulty, x.numbers[p]) })
}

// decide returns the decisions of all members in an epoch.
func (x state) decide(e api.Epoch) ([]int, api.Errno) {
	m := x.machine()
	states, err := machine.Play(m, e.Proposals, e.Word)
	if err != api.OK {
		return nil, err
	}
	var decisions []int
	for p, s := range states[m.Rounds] {
		decisions = append(decisions, m.Out[m.Rounds][p][s])
	}
	return decisions, api.OK
}

// decided returns the change that the remaining members have decided; nothing changes if there are none.
func (x state) decided(e api.Epoch, decisions []int) (api.Change, api.Errno) {
	change := api.Change{Proc: -1}
	for i, p := range x.remaining(e.Word) {
		d := decisions[x.numbers[p]]
		switch {
		case d < 0:
			return api.Change{}, api.ErrGap
		case d >= len(e.Changes):
			return api.Change{}, api.ErrRange
		case i == 0:
			change = e.Changes[d]
		case e.Changes[d] != change:
			return api.Change{}, api.ErrMismatch
		}
	}
	return change, api.OK
}

// change returns the group behind an epoch with some decisions.
func (x state) change(e api.Epoch, decisions []int) (api.Group, api.Errno) {
	change, err := x.decided(e, decisions)
	if err != api.OK {
		return api.Group{}, err
	}
	g := copied(x.group)
	if change.Proc >= 0 {
		g.Set ^= 1 << change.Proc
	}
	if g.Set == 0 {
		return api.Group{}, api.ErrEmpty
	}
	g.Epoch++
	remaining := x.remaining(e.Word)
	for _, p := range x.live() {
		if slices.Contains(remaining, p) {
			g.Members[p].History = append(g.Members[p].History, g.Set)
		} else {
			g.Members[p].Halted = true
		}
	}
	if more := g.Set &^ x.group.Set; more != 0 {
		p := bits.TrailingZeros(uint(more))
		g.Members[p] = api.Member{Joined: true, History: fresh.List(g.Members[remaining[0]].History)}
	}
	return g, api.OK
}
