package tests

import (
	"math"
	"testing"

	"roundtable/api"
	"roundtable/library"
	"roundtable/permutation"
	"roundtable/task"
)

// P12.1: Consensus, SetAgreement, Approximate and Crusader.
func TestLibraryAgreements(t *testing.T) {
	want(t, "consensus", all(library.Consensus(2, 2)), "[{2 2 2 [{[0 0] [[0 0]] []} {[0 1] [[0 0] [1 1]] []} {[1 0] [[0 0] [1 1]] []} {[1 1] [[1 1]] []}]} 0]")
	s, e := library.SetAgreement(3, 3, 2)
	want(t, "set", all(s.Cases[5], len(s.Cases), e), "[{[0 1 2] [[0 0 0] [0 0 1] [0 0 2] [0 1 0] [0 1 1] [0 2 0] [0 2 2] [1 0 0] [1 0 1] [1 1 0] [1 1 1] [1 1 2] [1 2 1] [1 2 2] [2 0 0] [2 0 2] [2 1 1] [2 1 2] [2 2 0] [2 2 1] [2 2 2]] []} 27 0]")
	a, e := library.Approximate(2, 3)
	want(t, "approximate", all(a, e), "[{2 2 4 [{[0 0] [[0 0]] []} {[0 1] [[0 0] [0 1] [1 0] [1 1] [1 2] [2 1] [2 2] [2 3] [3 2] [3 3]] []} {[1 0] [[0 0] [0 1] [1 0] [1 1] [1 2] [2 1] [2 2] [2 3] [3 2] [3 3]] []} {[1 1] [[3 3]] []}]} 0]")
	c, e := library.Crusader(2, 2)
	want(t, "crusader", all(c.Cases[2], e), "[{[1 0] [[0 0] [0 2] [1 1] [1 2] [2 0] [2 1] [2 2]] [[1 1]]} 0]")
	for _, n := range []int{0, 6, -1} {
		want(t, "consensus", all(library.Consensus(n, 2)), all(api.Task{}, api.ErrRange))
	}
	for _, x := range []int{0, -1, 9, math.MaxInt, math.MinInt} {
		want(t, "consensus", all(library.Consensus(2, x)), all(api.Task{}, api.ErrRange))
		want(t, "set", all(library.SetAgreement(2, 2, x)), all(api.Task{}, api.ErrRange))
		want(t, "crusader", all(library.Crusader(2, x)), all(api.Task{}, api.ErrRange))
	}
	for _, x := range []int{-1, 8, math.MaxInt, math.MinInt} {
		want(t, "approximate", all(library.Approximate(2, x)), all(api.Task{}, api.ErrRange))
	}
	want(t, "crusader", all(library.Crusader(2, 8)), all(api.Task{}, api.ErrRange))
	want(t, "limit", all(library.Consensus(4, 6)), all(api.Task{}, api.ErrLimit))
	want(t, "limit", all(library.SetAgreement(5, 5, 4)), all(api.Task{}, api.ErrLimit))
	_, e = library.Consensus(5, 4)
	want(t, "no limit", e, api.OK)
}

// P12.2: Renaming, Commit, Leader, Names and Get.
func TestLibraryOthers(t *testing.T) {
	r, e := library.Renaming(2, 3, 3)
	want(t, "renaming", all(len(r.Cases), r.Cases[1], e), "[6 {[0 2] [[0 1] [0 2] [1 0] [1 2] [2 0] [2 1]] []} 0]")
	want(t, "renaming", all(library.Renaming(3, 3, 2)), all(api.Task{}, api.ErrEmpty))
	want(t, "renaming", all(library.Renaming(3, 2, 3)), all(api.Task{}, api.ErrEmpty))
	want(t, "renaming", all(library.Renaming(5, 8, 4)), all(api.Task{}, api.ErrEmpty))
	want(t, "renaming", all(library.Renaming(5, 8, 5)), all(api.Task{}, api.ErrLimit))
	want(t, "renaming", all(library.Renaming(4, 4, 8)), all(api.Task{}, api.ErrLimit))
	want(t, "renaming", all(library.Renaming(3, 9, 2)), all(api.Task{}, api.ErrRange))
	want(t, "commit", all(library.Commit(2)), "[{2 2 2 [{[0 0] [[0 0]] [[0 0]]} {[0 1] [[0 0]] [[0 0]]} {[1 0] [[0 0]] [[0 0]]} {[1 1] [[0 0] [1 1]] [[1 1]]}]} 0]")
	want(t, "commit", all(library.Commit(0)), all(api.Task{}, api.ErrRange))
	want(t, "leader", all(library.Leader(3)), "[{3 1 2 [{[0 0 0] [[0 0 1] [0 1 0] [1 0 0]] []}]} 0]")
	want(t, "leader", all(library.Leader(6)), all(api.Task{}, api.ErrRange))
	want(t, "names", library.Names(), "[approximate commit consensus crusader leader renaming set]")
	want(t, "get", all(library.Get("none", 0, 0, 0)), all(api.Task{}, api.ErrName))
	for name, direct := range map[string]func() (api.Task, api.Errno){
		"approximate": func() (api.Task, api.Errno) { return library.Approximate(2, 3) },
		"commit":      func() (api.Task, api.Errno) { return library.Commit(2) },
		"consensus":   func() (api.Task, api.Errno) { return library.Consensus(2, 3) },
		"crusader":    func() (api.Task, api.Errno) { return library.Crusader(2, 3) },
		"leader":      func() (api.Task, api.Errno) { return library.Leader(2) },
		"renaming":    func() (api.Task, api.Errno) { return library.Renaming(2, 3, 2) },
		"set":         func() (api.Task, api.Errno) { return library.SetAgreement(2, 3, 2) },
	} {
		x, e := direct()
		want(t, name, all(library.Get(name, 2, 3, 2)), all(x, e))
	}
}

// P12.3: consequences.
func TestLibraryLaws(t *testing.T) {
	perms, _ := permutation.All(3)
	for _, name := range library.Names() {
		x, e := library.Get(name, 3, 3, 3)
		good(t, name, e)
		want(t, name, task.Check(x), api.OK)
		is, _ := task.Agreement(x)
		want(t, name+" agreement", is, name == "consensus" || name == "commit")
		for _, pi := range perms {
			if name != "crusader" {
				want(t, name, all(task.Permute(x, pi)), all(x, api.OK))
			}
		}
	}
	one, _ := library.SetAgreement(3, 2, 1)
	want(t, "set of one", all(library.Consensus(3, 2)), all(one, api.OK))
}
