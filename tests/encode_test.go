package tests

import (
	"testing"

	"roundtable/api"
	"roundtable/clauses"
	"roundtable/encode"
	"roundtable/execution"
	"roundtable/library"
	"roundtable/solver"
	"roundtable/task"
)

// P44.1: Domains, Variables and Encode.
func TestEncodeClauses(t *testing.T) {
	s := exampleSystem(t)
	want(t, "domains", all(encode.Domains(s)), "[[[] [] [0] [0] [0] [] [0 1] [0 1]] 0]")
	want(t, "variables", all(encode.Variables(s)), "[[[2 0] [3 0] [4 0] [6 0] [6 1] [7 0] [7 1]] 0]")
	want(t, "encode", all(encode.Encode(s)), "[{7 [[1] [2] [3] [4 5] [6 7] [-1 -5] [-5 -6] [-4 -7]]} 0]")
	calm := systemOf(t, calmTask(), adversaryOf(t, 2, "01 01, 0 01 !0 > 1", "0 1 !0"), 1)
	want(t, "calm", all(encode.Domains(calm)), "[[[] [] [] [0] [0] [] [1] [1] [] [] [1] [1]] 0]")
	free := systemOf(t, consensusOf(t, 1), adversaryOf(t, 2, "0 1 !01"), 1)
	want(t, "nobody", all(encode.Encode(free)), "[{0 []} 0]")
	none := api.Task{N: 2, Ins: 2, Outs: 2, Cases: []api.Case{{In: []int{0, 0}, Out: [][]int{{0, 0}}}, {In: []int{0, 1}, Out: [][]int{{1, 1}}}}}
	want(t, "empty domain", all(encode.Encode(systemOf(t, none, adversaryOf(t, 2, "0 1"), 0))), "[{2 [[] [1] [2]]} 0]")
	big, _ := library.SetAgreement(4, 5, 4)
	wide := systemOf(t, big, adversaryOf(t, 4, "0123 0123 0123 0123"), 1)
	want(t, "limit", all(encode.Domains(wide)), "[[] 17]")
	want(t, "limit", all(encode.Variables(wide)), "[[] 17]")
	want(t, "limit", all(encode.Encode(wide)), "[{0 []} 17]")
	want(t, "limit", all(encode.Force(wide, -1, 0)), "[[] 17]")
	want(t, "limit", all(encode.Decode(wide, nil)), "[{[]} 17]")
	want(t, "limit", all(encode.Model(wide, api.Rule{})), "[[] 17]")
	names, _ := library.Renaming(4, 5, 6)
	names, _ = task.Restrict(names, []int{0})
	for i := range names.Cases {
		names.Cases[i].Out = names.Cases[i].Out[:1]
		for v := range 6 {
			if v > 0 {
				names.Cases[i].Out = append(names.Cases[i].Out, []int{v, v, v, v})
			}
		}
	}
	var graphs []string
	for _, a := range []string{"0123", "0"} {
		for _, b := range []string{"0123", "1"} {
			for _, c := range []string{"0123", "2"} {
				for _, d := range []string{"0123", "3", "03"} {
					graphs = append(graphs, a+" "+b+" "+c+" "+d)
				}
			}
		}
	}
	text := graphs[0]
	for _, g := range graphs[1:] {
		text += ", " + g
	}
	large := systemOf(t, names, adversaryOf(t, 4, text), 2)
	want(t, "clauses", all(encode.Encode(large)), "[{0 []} 17]")
	for _, x := range badSystems(t) {
		want(t, "domains", all(encode.Domains(x.s)), all([]int{}, x.e))
		want(t, "variables", all(encode.Variables(x.s)), all([]int{}, x.e))
		want(t, "encode", all(encode.Encode(x.s)), all(api.Clauses{}, x.e))
		want(t, "force", all(encode.Force(x.s, -1, -1)), all([]int{}, x.e))
		want(t, "decode", all(encode.Decode(x.s, nil)), all(api.Rule{}, x.e))
		want(t, "model", all(encode.Model(x.s, api.Rule{})), all([]int{}, x.e))
	}
}

// P44.2: Force, Decode and Model.
func TestEncodeModels(t *testing.T) {
	s := exampleSystem(t)
	want(t, "force", all(encode.Force(s, 0, 1)), "[[[] [] [7]] 0]")
	want(t, "force", all(encode.Force(s, 6, 1)), "[[[5]] 0]")
	want(t, "force", all(encode.Force(s, 8, 9)), "[[] 6]")
	want(t, "force", all(encode.Force(s, 0, 2)), "[[] 2]")
	want(t, "force", all(encode.Force(s, 0, -1)), "[[] 2]")
	zero := api.Rule{Out: []int{9, 9, 0, 0, 0, -7, 0, 0}}
	want(t, "model", all(encode.Model(s, zero)), "[[1 2 3 4 -5 6 -7] 0]")
	want(t, "model", all(encode.Model(s, api.Rule{Out: []int{0}})), "[[] 15]")
	want(t, "model", all(encode.Model(s, api.Rule{Out: []int{0, 0, 1, 0, 0, 0, 0, 0}})), "[[] 2]")
	want(t, "decode", all(encode.Decode(s, []int{1, 2, 3, 4, 5, -6, 7})), "[{[-1 -1 0 0 0 -1 0 1]} 0]")
	want(t, "decode", all(encode.Decode(s, []int{1, 2, 3, 4, 5, -6})), "[{[]} 15]")
	want(t, "decode", all(encode.Decode(s, []int{-1, 2, 3, 4, 5, -6, 6})), "[{[]} 3]")
	want(t, "decode", all(encode.Decode(s, []int{1, 2, 3, -4, -5, -6, 7})), "[{[]} 20]")
}

// P44.3: consequences.
func TestEncodeLaws(t *testing.T) {
	leader, _ := library.Leader(2)
	approximate, _ := library.Approximate(2, 1)
	for _, s := range []api.System{exampleSystem(t), systemOf(t, leader, adversaryOf(t, 2, "0 01, 01 1"), 1), systemOf(t, approximate, adversaryOf(t, 2, "0 1"), 1)} {
		c, e := encode.Encode(s)
		good(t, "encode", e)
		want(t, "check", clauses.Check(c), api.OK)
		l, _ := solver.Models(c, 1024)
		domains, _ := encode.Domains(s)
		for _, m := range l {
			r, e := encode.Decode(s, m)
			good(t, "decode", e)
			model, _ := encode.Model(s, r)
			want(t, "again", all(encode.Decode(s, model)), all(r, api.OK))
			want(t, "model", all(clauses.Eval(c, model)), "[0 true 0]")
			for i, x := range s.Executions {
				set, _ := execution.Obliged(s, i)
				var outs []int
				for p, view := range x.Views[len(x.Views)-1] {
					outs = append(outs, -1)
					if set>>p&1 == 1 {
						outs[p] = r.Out[view]
					}
				}
				want(t, "permitted", all(task.Permitted(s.Problem.Task, x.Case, 1<<s.Table.N-1-set, outs)), "[true 0]")
			}
			for view := range s.Table.Views {
				for value := range s.Problem.Task.Outs {
					force, _ := encode.Force(s, view, value)
					_, ok, _ := clauses.Eval(api.Clauses{Vars: c.Vars, List: force}, model)
					finals, _ := execution.Continuing(s, view)
					same := true
					for _, f := range finals {
						same = same && r.Out[f] == value
					}
					want(t, "forced", ok, same)
				}
			}
		}
		for view, d := range domains {
			for _, value := range d {
				want(t, "domain", value >= 0 && view >= 0, true)
			}
		}
	}
}
