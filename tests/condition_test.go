package tests

import (
	"testing"

	"roundtable/api"
	"roundtable/condition"
	"roundtable/graph"
	"roundtable/library"
	"roundtable/task"
)

// P13.1: Inputs and Outputs.
func TestConditionVectors(t *testing.T) {
	less := condOf(t, "in(0) < in(1)")
	want(t, "inputs", all(condition.Inputs(2, 2, less)), "[[[0 1]] 0]")
	want(t, "inputs", all(condition.Inputs(2, 3, less)), "[[[0 1] [0 2] [1 2]] 0]")
	want(t, "inputs", all(condition.Inputs(1, 3, api.Expr{})), "[[[0] [1] [2]] 0]")
	want(t, "inputs", all(condition.Inputs(1, 3, no)), "[[] 0]")
	same := condOf(t, "all p: out(p) = in(p)")
	want(t, "outputs", all(condition.Outputs(2, 2, []int{0, 1}, same)), "[[[0 1]] 0]")
	want(t, "outputs", all(condition.Outputs(2, 2, []int{0, 7}, same)), "[[] 0]")
	want(t, "outputs", all(condition.Outputs(2, 2, []int{0, 7}, api.Expr{})), "[[[0 0] [0 1] [1 0] [1 1]] 0]")
	for _, x := range []struct {
		n, values int
		e         api.Expr
		err       api.Errno
	}{
		{0, 2, less, api.ErrRange}, {6, 2, less, api.ErrRange}, {2, 9, less, api.ErrRange}, {2, 0, ex(99), api.ErrRange}, {2, 2, ex(99), api.ErrArg}, {2, 2, num(1), api.ErrType},
		{2, 2, variable(0), api.ErrUnbound}, {2, 2, condOf(t, "hears(0, 1)"), api.ErrUse}, {5, 5, api.Expr{}, api.ErrMany}, {4, 6, yes, api.ErrMany},
	} {
		want(t, "inputs", all(condition.Inputs(x.n, x.values, x.e)), all([]int{}, x.err))
		want(t, "outputs", all(condition.Outputs(x.n, x.values, make([]int, max(x.n, 0)), x.e)), all([]int{}, x.err))
	}
	want(t, "inputs use", all(condition.Inputs(2, 2, same)), all([]int{}, api.ErrUse))
	want(t, "outputs in", all(condition.Outputs(2, 2, []int{0}, ex(99))), all([]int{}, api.ErrShape))
	want(t, "outputs in", all(condition.Outputs(2, 2, []int{0, 8}, ex(99))), all([]int{}, api.ErrRange))
}

// P13.2: Task and Graphs.
func TestConditionTask(t *testing.T) {
	d := api.TaskDecl{Ins: 2, Outs: 2, Allow: condOf(t, "all p: all q: out(p) = out(q) and some r: some s: out(r) = in(s)")}
	consensus, _ := library.Consensus(2, 2)
	want(t, "consensus", all(condition.Task(2, d)), all(consensus, api.OK))
	d.Where, d.Calm = condOf(t, "in(0) = 1"), condOf(t, "out(0) = 1")
	want(t, "calm", all(condition.Task(2, d)), "[{2 2 2 [{[1 0] [[0 0] [1 1]] [[1 1]]} {[1 1] [[1 1]] [[1 1]]}]} 0]")
	for i, x := range []struct {
		change func(d *api.TaskDecl)
		e      api.Errno
	}{
		{func(d *api.TaskDecl) { d.Ins = 0 }, api.ErrRange}, {func(d *api.TaskDecl) { d.Outs = 9 }, api.ErrRange}, {func(d *api.TaskDecl) { d.Where = d.Allow }, api.ErrUse}, {func(d *api.TaskDecl) { d.Allow = api.Expr{} }, api.ErrType},
		{func(d *api.TaskDecl) { d.Allow = condOf(t, "hears(0, 0)") }, api.ErrUse}, {func(d *api.TaskDecl) { d.Calm = ex(77) }, api.ErrArg}, {func(d *api.TaskDecl) { d.Where = no }, api.ErrEmpty}, {func(d *api.TaskDecl) { d.Allow = no }, api.ErrEmpty},
		{func(d *api.TaskDecl) { d.Calm = no }, api.ErrEmpty}, {func(d *api.TaskDecl) { d.Where, d.Calm = api.Expr{}, condOf(t, "in(0) = 1") }, api.ErrEmpty}, {func(d *api.TaskDecl) { d.Where, d.Allow = no, ex(99) }, api.ErrArg},
	} {
		bad := d
		x.change(&bad)
		want(t, string(rune('a'+i)), all(condition.Task(2, bad)), all(api.Task{}, x.e))
	}
	want(t, "n", all(condition.Task(0, d)), all(api.Task{}, api.ErrRange))
	wide := api.TaskDecl{Ins: 6, Outs: 8, Allow: yes}
	want(t, "cases", all(condition.Task(4, wide)), all(api.Task{}, api.ErrMany))
	wide.Ins = 1
	want(t, "vectors", all(condition.Task(4, wide)), all(api.Task{}, api.ErrMany))
	want(t, "graphs", all(condition.Graphs(2, condOf(t, "hears(0, 1)"))), all([]api.Graph{graphOf(t, "01 1"), graphOf(t, "01 01")}, api.OK))
	want(t, "graphs", all(condition.Graphs(9, condOf(t, "in(0) = 1"))), all([]int{}, api.ErrUse))
	want(t, "graphs", all(condition.Graphs(2, api.Expr{})), all([]int{}, api.ErrType))
	want(t, "graphs", all(condition.Graphs(2, ex(99))), all([]int{}, api.ErrArg))
	want(t, "graphs", all(condition.Graphs(5, yes)), all([]int{}, api.ErrLimit))
	want(t, "graphs", all(condition.Graphs(6, yes)), all([]int{}, api.ErrRange))
}

// P13.3: consequences.
func TestConditionLaws(t *testing.T) {
	a, b := condOf(t, "all p: hears(p, 0)"), condOf(t, "some p: p != 1 and hears(p, 1)")
	both, _ := condition.Graphs(3, ex(api.ExprAnd, a, b))
	one, _ := condition.Graphs(3, ex(api.ExprOr, a, b))
	la, _ := condition.Graphs(3, a)
	lb, _ := condition.Graphs(3, b)
	not, _ := condition.Graphs(3, ex(api.ExprNot, a))
	every, _ := graph.All(3)
	want(t, "numbers", len(la)+len(lb), len(both)+len(one))
	want(t, "others", len(not)+len(la), len(every))
	d := api.TaskDecl{Ins: 3, Outs: 3, Allow: condOf(t, "all p: out(p) <= in(p)")}
	x, e := condition.Task(2, d)
	good(t, "task", e)
	want(t, "check", task.Check(x), api.OK)
	for i, c := range x.Cases {
		want(t, "permitted", all(task.Permitted(x, i, 0, c.In)), "[true 0]")
		want(t, "number", len(c.Out), (c.In[0]+1)*(c.In[1]+1))
	}
}
