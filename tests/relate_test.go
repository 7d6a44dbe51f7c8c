package tests

import (
	"testing"

	"roundtable/api"
	"roundtable/library"
	"roundtable/permutation"
	"roundtable/relate"
	"roundtable/task"
)

// anyTask is the task with all vectors of the values 0 and 1 in all cases.
func anyTask() api.Task {
	t, _ := library.SetAgreement(2, 2, 2)
	for i := range t.Cases {
		t.Cases[i].Out = [][]int{{0, 0}, {0, 1}, {1, 0}, {1, 1}}
	}
	return t
}

// P14.1: Stronger, Meet and Join.
func TestRelateStronger(t *testing.T) {
	a, _ := library.Consensus(2, 2)
	b := anyTask()
	want(t, "stronger", all(relate.Stronger(a, b)), "[[] 0 [] true 0]")
	want(t, "stronger", all(relate.Stronger(b, a)), "[[0 0] 0 [0 1] false 0]")
	less, _ := task.Restrict(a, []int{0, 3})
	want(t, "no case", all(relate.Stronger(less, a)), "[[0 1] 0 [] false 0]")
	want(t, "fewer cases", all(relate.Stronger(a, less)), "[[] 0 [] true 0]")
	commit, _ := library.Commit(2)
	calm := calmTask()
	want(t, "calm", all(relate.Stronger(commit, calm)), "[[0 1] 0 [0 0] false 0]")
	rude := api.Task{N: 2, Ins: 1, Outs: 3, Cases: []api.Case{{In: []int{0, 0}, Out: [][]int{{0, 0}, {0, 2}}, Calm: [][]int{{0, 0}}}}}
	mild := api.Task{N: 2, Ins: 1, Outs: 1, Cases: []api.Case{{In: []int{0, 0}, Out: [][]int{{0, 0}}}}}
	want(t, "faulty", all(relate.Stronger(rude, mild)), "[[0 0] 1 [0 2] false 0]")
	want(t, "meet", all(relate.Meet(a, b)), all(a, api.OK))
	want(t, "join", all(relate.Join(a, b)), all(b, api.OK))
	want(t, "meet", all(relate.Meet(calm, a)), "[{2 2 2 [{[0 0] [[0 0]] []} {[0 1] [[0 0] [1 1]] [[1 1]]} {[1 1] [[1 1]] []}]} 0]")
	want(t, "join", all(relate.Join(calm, commit)), "[{2 2 2 [{[0 0] [[0 0]] []} {[0 1] [[0 0] [1 1]] []} {[1 0] [[0 0]] []} {[1 1] [[0 0] [1 1]] [[1 1]]}]} 0]")
	want(t, "meet", all(relate.Meet(rude, mild)), "[{2 1 1 [{[0 0] [[0 0]] []}]} 0]")
	lonely, _ := task.Restrict(a, []int{1})
	want(t, "meet", all(relate.Meet(lonely, less)), all(api.Task{}, api.ErrEmpty))
	want(t, "meet", all(relate.Meet(calm, api.Task{N: 2, Ins: 2, Outs: 1, Cases: []api.Case{{In: []int{0, 1}, Out: [][]int{{0, 0}}}}})), all(api.Task{}, api.ErrEmpty))
	want(t, "meet", all(relate.Meet(calm, api.Task{N: 2, Ins: 2, Outs: 2, Cases: []api.Case{{In: []int{0, 1}, Out: [][]int{{0, 1}}}}})), all(api.Task{}, api.ErrEmpty))
	three, _ := library.Consensus(3, 2)
	want(t, "mismatch", all(relate.Join(a, three)), all(api.Task{}, api.ErrMismatch))
	want(t, "mismatch", all(relate.Stronger(a, three)), "[[] 0 [] false 22]")
	wide := func(first int) api.Task {
		x := api.Task{N: 5, Ins: 8, Outs: 1}
		for i := range 1024 {
			x.Cases = append(x.Cases, api.Case{In: []int{first, i >> 9 & 7, i >> 6 & 7, i >> 3 & 7, i & 7}, Out: [][]int{{0, 0, 0, 0, 0}}})
		}
		return x
	}
	want(t, "cases", all(relate.Join(wide(0), wide(1))), all(api.Task{}, api.ErrMany))
	full := func(last int) api.Task {
		c := api.Case{In: []int{0, 0, 0, 0, 0}}
		for i := range 1024 {
			c.Out = append(c.Out, []int{i >> 8, i >> 6 & 3, i >> 4 & 3, i >> 2 & 3, i&3 + last})
		}
		return api.Task{N: 5, Ins: 1, Outs: 5, Cases: []api.Case{c}}
	}
	want(t, "vectors", all(relate.Join(full(0), full(1))), all(api.Task{}, api.ErrMany))
	for _, x := range badTasks() {
		want(t, "stronger", all(relate.Stronger(a, x.t)), all([]int{}, 0, []int{}, false, x.e))
		want(t, "meet", all(relate.Meet(x.t, api.Task{})), all(api.Task{}, x.e))
		want(t, "join", all(relate.Join(a, x.t)), all(api.Task{}, x.e))
	}
}

// P14.2: Product, Relabel and Symmetries.
func TestRelateProduct(t *testing.T) {
	a, _ := library.Consensus(2, 2)
	p, e := relate.Product(a, a)
	want(t, "product", all(p.Outs, p.Cases[0], p.Cases[1], e), "[4 {[0 0] [[0 0]] []} {[0 1] [[0 0] [1 1] [2 2] [3 3]] []} 0]")
	calm := calmTask()
	p, e = relate.Product(calm, a)
	want(t, "calm", all(len(p.Cases), p.Cases[1], e), "[3 {[0 1] [[0 0] [1 1] [2 2] [3 3]] [[2 2] [3 3]]} 0]")
	big, _ := library.Consensus(2, 5)
	want(t, "many", all(relate.Product(a, big)), all(api.Task{}, api.ErrMany))
	less, _ := task.Restrict(a, []int{0})
	lonely, _ := task.Restrict(a, []int{1})
	want(t, "empty", all(relate.Product(less, lonely)), all(api.Task{}, api.ErrEmpty))
	s, _ := library.SetAgreement(5, 2, 2)
	w, _ := library.Approximate(5, 3)
	want(t, "vectors", all(relate.Product(s, w)), all(api.Task{}, api.ErrMany))
	full, e := relate.Product(s, s)
	want(t, "full", all(len(full.Cases[1].Out), e), "[1024 0]")
	want(t, "relabel", all(relate.Relabel(a, 1, []int{0, 0})), "[{2 2 1 [{[0 0] [[0 0]] []} {[0 1] [[0 0]] []} {[1 0] [[0 0]] []} {[1 1] [[0 0]] []}]} 0]")
	want(t, "relabel", all(relate.Relabel(calm, 3, []int{2, 1})), "[{2 2 3 [{[0 0] [[2 2]] []} {[0 1] [[1 1] [2 2]] [[1 1]]} {[1 1] [[1 1]] []}]} 0]")
	want(t, "relabel", all(relate.Relabel(a, 0, nil)), all(api.Task{}, api.ErrRange))
	want(t, "relabel", all(relate.Relabel(a, 2, []int{0})), all(api.Task{}, api.ErrShape))
	want(t, "relabel", all(relate.Relabel(a, 2, []int{0, 2})), all(api.Task{}, api.ErrRange))
	want(t, "symmetries", all(relate.Symmetries(a)), "[[[0 1] [1 0]] 0]")
	want(t, "symmetries", all(relate.Symmetries(calm)), "[[[0 1]] 0]")
	for _, x := range badTasks() {
		want(t, "product", all(relate.Product(x.t, a)), all(api.Task{}, x.e))
		want(t, "relabel", all(relate.Relabel(x.t, 0, nil)), all(api.Task{}, x.e))
		want(t, "symmetries", all(relate.Symmetries(x.t)), all([]int{}, x.e))
	}
}

// P14.3: consequences.
func TestRelateLaws(t *testing.T) {
	var l []api.Task
	for _, name := range library.Names() {
		x, e := library.Get(name, 3, 3, 3)
		good(t, name, e)
		l = append(l, x)
	}
	stronger := func(a, b api.Task) bool {
		_, _, _, ok, e := relate.Stronger(a, b)
		good(t, "stronger", e)
		return ok
	}
	for _, a := range l {
		want(t, "reflexive", stronger(a, a), true)
		for _, b := range l {
			if m, e := relate.Meet(a, b); e == api.OK && len(m.Cases) == len(a.Cases) && len(m.Cases) == len(b.Cases) {
				want(t, "meet", stronger(m, a) && stronger(m, b), true)
			}
			if j, e := relate.Join(a, b); e == api.OK && len(j.Cases) == len(a.Cases) && len(j.Cases) == len(b.Cases) {
				want(t, "join", stronger(a, j) && stronger(b, j), true)
			}
			if p, e := relate.Product(a, b); e == api.OK {
				to := make([]int, p.Outs)
				for x := range to {
					to[x] = x / b.Outs
				}
				part, e := relate.Relabel(p, a.Outs, to)
				good(t, "part", e)
				want(t, "product", stronger(a, part), true)
			}
			for _, c := range l {
				if stronger(a, b) && stronger(b, c) {
					want(t, "transitive", stronger(a, c), true)
				}
			}
		}
		s, _ := relate.Symmetries(a)
		want(t, "group", all(permutation.Generate(3, s)), all(s, api.OK))
	}
}
