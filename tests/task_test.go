package tests

import (
	"testing"

	"roundtable/api"
	"roundtable/library"
	"roundtable/permutation"
	"roundtable/task"
)

// calmTask is the task of the examples of layer 11.
func calmTask() api.Task {
	return api.Task{N: 2, Ins: 2, Outs: 2, Cases: []api.Case{
		{In: []int{0, 0}, Out: [][]int{{0, 0}}},
		{In: []int{0, 1}, Out: [][]int{{0, 0}, {1, 1}}, Calm: [][]int{{1, 1}}},
		{In: []int{1, 1}, Out: [][]int{{1, 1}}},
	}}
}

type badTask struct {
	t api.Task
	e api.Errno
}

func badTasks() []badTask {
	changed := func(change func(t *api.Task)) api.Task {
		t := calmTask()
		change(&t)
		return t
	}
	return []badTask{
		{api.Task{}, api.ErrRange}, {changed(func(t *api.Task) { t.N = 6 }), api.ErrRange}, {changed(func(t *api.Task) { t.Ins = 9 }), api.ErrRange}, {changed(func(t *api.Task) { t.Outs = 0 }), api.ErrRange},
		{changed(func(t *api.Task) { t.Cases = nil }), api.ErrMany}, {changed(func(t *api.Task) { t.Cases = make([]api.Case, 1025) }), api.ErrMany}, {changed(func(t *api.Task) { t.Cases[0].In = nil }), api.ErrShape},
		{changed(func(t *api.Task) { t.Cases[0].In[1] = 2 }), api.ErrRange}, {changed(func(t *api.Task) { t.Cases[1].In[1] = 0 }), api.ErrOrder}, {changed(func(t *api.Task) { t.Cases[2].Out = nil }), api.ErrMany},
		{changed(func(t *api.Task) { t.Cases[2].Out = make([][]int, 1025) }), api.ErrMany}, {changed(func(t *api.Task) { t.Cases[1].Out[1] = []int{1} }), api.ErrShape}, {changed(func(t *api.Task) { t.Cases[1].Out[1][0] = -1 }), api.ErrRange},
		{changed(func(t *api.Task) { t.Cases[1].Out[1] = []int{0, 0} }), api.ErrOrder}, {changed(func(t *api.Task) { t.Cases[1].Calm[0] = []int{1, 0} }), api.ErrNone}, {changed(func(t *api.Task) { t.Cases[1].Calm = append(t.Cases[1].Calm, []int{0, 0}) }), api.ErrOrder},
		{changed(func(t *api.Task) { t.Cases[1].Calm = [][]int{{1, 1}, {1, 1}} }), api.ErrOrder},
	}
}

// P11.1: Check, Find, Allowed, Permitted and Domain.
func TestTaskDecisions(t *testing.T) {
	c := calmTask()
	want(t, "check", task.Check(c), api.OK)
	want(t, "find", all(task.Find(c, []int{1, 1})), "[2 0]")
	want(t, "find", all(task.Find(c, []int{1, 0})), "[0 6]")
	want(t, "find", all(task.Find(c, nil)), "[0 6]")
	want(t, "allowed", all(task.Allowed(c, 1, 0)), "[[[1 1]] 0]")
	want(t, "allowed", all(task.Allowed(c, 1, 2)), "[[[0 0] [1 1]] 0]")
	want(t, "allowed", all(task.Allowed(c, 0, 0)), "[[[0 0]] 0]")
	want(t, "allowed", all(task.Allowed(c, 3, 9)), "[[] 6]")
	want(t, "allowed", all(task.Allowed(c, 0, 4)), "[[] 2]")
	want(t, "permitted", all(task.Permitted(c, 1, 2, []int{0, -1})), "[true 0]")
	want(t, "permitted", all(task.Permitted(c, 1, 2, []int{-1, 0})), "[false 0]")
	want(t, "permitted", all(task.Permitted(c, 1, 0, []int{0, 0})), "[false 0]")
	want(t, "permitted", all(task.Permitted(c, 1, 1, []int{0, 1})), "[true 0]")
	want(t, "permitted", all(task.Permitted(c, 1, 3, []int{0, 1})), "[true 0]")
	want(t, "permitted", all(task.Permitted(c, 1, 0, []int{0})), "[false 15]")
	want(t, "permitted", all(task.Permitted(c, 1, 3, []int{0, 2})), "[false 2]")
	want(t, "permitted", all(task.Permitted(c, -1, 9, nil)), "[false 6]")
	want(t, "domain", all(task.Domain(c, 1, 0, 0)), "[[1] 0]")
	want(t, "domain", all(task.Domain(c, 1, 2, 1)), "[[0 1] 0]")
	want(t, "domain", all(task.Domain(c, 1, 0, 2)), "[[] 2]")
	for _, x := range badTasks() {
		want(t, "check", task.Check(x.t), x.e)
		want(t, "find", all(task.Find(x.t, nil)), all(0, x.e))
		want(t, "allowed", all(task.Allowed(x.t, -1, 0)), all([]int{}, x.e))
		want(t, "permitted", all(task.Permitted(x.t, -1, 0, nil)), all(false, x.e))
		want(t, "domain", all(task.Domain(x.t, -1, 0, 9)), all([]int{}, x.e))
	}
	l, _ := task.Allowed(c, 1, 1)
	l[0][0] = 7
	want(t, "memory", c, calmTask())
}

// P11.2: Restrict, Permute, Agreement and Size.
func TestTaskChanges(t *testing.T) {
	c := calmTask()
	some, e := task.Restrict(c, []int{0, 2})
	want(t, "restrict", all(some, e), "[{2 2 2 [{[0 0] [[0 0]] []} {[1 1] [[1 1]] []}]} 0]")
	want(t, "restrict", all(task.Restrict(c, nil)), all(api.Task{}, api.ErrMany))
	want(t, "restrict", all(task.Restrict(c, make([]int, 1025))), all(api.Task{}, api.ErrMany))
	want(t, "restrict", all(task.Restrict(c, []int{1, 3, 3})), all(api.Task{}, api.ErrNone))
	want(t, "restrict", all(task.Restrict(c, []int{1, 0, 3})), all(api.Task{}, api.ErrOrder))
	want(t, "restrict", all(task.Restrict(c, []int{1, 1})), all(api.Task{}, api.ErrOrder))
	want(t, "permute", all(task.Permute(c, []int{1, 0})), "[{2 2 2 [{[0 0] [[0 0]] []} {[1 0] [[0 0] [1 1]] [[1 1]]} {[1 1] [[1 1]] []}]} 0]")
	want(t, "permute", all(task.Permute(c, []int{1, 2, 0})), all(api.Task{}, api.ErrMismatch))
	want(t, "permute", all(task.Permute(c, []int{1, 1})), all(api.Task{}, api.ErrTwice))
	want(t, "agreement", all(task.Agreement(c)), "[true 0]")
	leader, _ := library.Leader(2)
	want(t, "agreement", all(task.Agreement(leader)), "[false 0]")
	want(t, "size", all(task.Size(c)), "[3 4 0]")
	for _, x := range badTasks() {
		want(t, "restrict", all(task.Restrict(x.t, nil)), all(api.Task{}, x.e))
		want(t, "permute", all(task.Permute(x.t, nil)), all(api.Task{}, x.e))
		want(t, "agreement", all(task.Agreement(x.t)), all(false, x.e))
		want(t, "size", all(task.Size(x.t)), all(0, 0, x.e))
	}
}

// P11.3: consequences.
func TestTaskLaws(t *testing.T) {
	c, _ := library.Crusader(3, 2)
	perms, _ := permutation.All(3)
	for index, x := range c.Cases {
		for faulty := range 8 {
			l, _ := task.Allowed(c, index, faulty)
			for _, v := range l {
				outs := append([]int{}, v...)
				for p := range outs {
					if faulty>>p&1 == 1 {
						outs[p] = -1
					}
				}
				want(t, "permitted", all(task.Permitted(c, index, faulty, outs)), "[true 0]")
				for p := range 3 {
					d, _ := task.Domain(c, index, faulty, p)
					want(t, "domain", len(d) > 0, true)
				}
				for _, pi := range perms {
					renamed, _ := task.Permute(c, pi)
					in, _ := permutation.Vector(pi, x.In)
					set, _ := permutation.Set(pi, faulty)
					w, _ := permutation.Vector(pi, outs)
					k, _ := task.Find(renamed, in)
					want(t, "renamed", all(task.Permitted(renamed, k, set, w)), "[true 0]")
				}
			}
		}
	}
}
