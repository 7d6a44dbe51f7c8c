package tests

import (
	"slices"
	"testing"

	"roundtable/adversary"
	"roundtable/api"
	"roundtable/execution"
	"roundtable/failure"
	"roundtable/library"
	"roundtable/task"
	"roundtable/views"
)

// systemOf builds the system of a problem.
func systemOf(t *testing.T, x api.Task, a api.Adversary, rounds int) api.System {
	t.Helper()
	s, e := execution.Build(api.Problem{Task: x, Adversary: a, Rounds: rounds})
	good(t, "build", e)
	return s
}

// consensusOf is the consensus of two processes with some cases.
func consensusOf(t *testing.T, cases ...int) api.Task {
	t.Helper()
	x, _ := library.Consensus(2, 2)
	x, e := task.Restrict(x, cases)
	good(t, "restrict", e)
	return x
}

// exampleSystem is the system of the example of layer 23, for the consensus.
func exampleSystem(t *testing.T) api.System {
	t.Helper()
	return systemOf(t, consensusOf(t, 0, 1), adversaryOf(t, 2, "0 01, 01 01"), 1)
}

// lossySystem is the system of the example of layer 24.
func lossySystem(t *testing.T) api.System {
	t.Helper()
	return systemOf(t, consensusOf(t, 0, 1, 2, 3), adversaryOf(t, 2, "0 01, 01 1, 01 01"), 1)
}

// crashSystem is the consensus of three processes with a crash.
func crashSystem(t *testing.T, rounds int) api.System {
	t.Helper()
	x, _ := library.Consensus(3, 2)
	a, _ := failure.Crash(3, 1)
	return systemOf(t, x, a, rounds)
}

type badProblem struct {
	p api.Problem
	e api.Errno
}

// badProblems are problems that are not well-formed.
func badProblems(t *testing.T) []badProblem {
	x, a := consensusOf(t, 0, 1), adversaryOf(t, 2, "0 01, 01 01")
	l := []badProblem{
		{api.Problem{Task: x, Adversary: adversaryOf(t, 3, "0 1 2"), Rounds: 9}, api.ErrMismatch},
		{api.Problem{Task: x, Adversary: a, Rounds: 7}, api.ErrRange},
		{api.Problem{Task: x, Adversary: a, Rounds: -1}, api.ErrRange},
	}
	for _, y := range badTasks() {
		l = append(l, badProblem{api.Problem{Task: y.t}, y.e})
	}
	for _, y := range badAdversaries(t) {
		l = append(l, badProblem{api.Problem{Task: x, Adversary: y.a, Rounds: -1}, y.e})
	}
	return l
}

type badSystem struct {
	s api.System
	e api.Errno
}

// badSystems are systems that are not those of their problems.
func badSystems(t *testing.T) []badSystem {
	changed := func(change func(s *api.System)) badSystem {
		s := exampleSystem(t)
		change(&s)
		return badSystem{s, api.ErrForm}
	}
	l := []badSystem{
		{api.System{}, api.ErrRange}, changed(func(s *api.System) { s.Table.N = 3 }), changed(func(s *api.System) { s.Table.Views = s.Table.Views[:7] }), changed(func(s *api.System) { s.Table.Views[0].Input = 1 }),
		changed(func(s *api.System) { s.Executions = s.Executions[:3] }), changed(func(s *api.System) { s.Executions[2].Case = 0 }), changed(func(s *api.System) { s.Executions[2].Word[0].Faulty = 1 }),
		changed(func(s *api.System) { s.Executions[2].Views[1][0] = 4 }), changed(func(s *api.System) { s.Executions[2].Views = nil }),
	}
	s := exampleSystem(t)
	s.Problem.Rounds = 9
	return append(l, badSystem{s, api.ErrRange})
}

// P23.1: Check, Count, Build and Verify.
func TestExecutionBuild(t *testing.T) {
	s := exampleSystem(t)
	want(t, "check", execution.Check(s.Problem), api.OK)
	want(t, "count", all(execution.Count(s.Problem)), "[4 0]")
	want(t, "executions", len(s.Executions), 4)
	for i, text := range []string{"0:0", "1:0", "0(0:0)", "1(0:0,1:0)", "0(0:0,1:0)", "1:1", "1(0:0,1:1)", "0(0:0,1:1)"} {
		want(t, "view", all(views.Text(s.Table, i)), all(text, api.OK))
	}
	for i, x := range [][][]int{{{0, 1}, {2, 3}}, {{0, 1}, {4, 3}}, {{0, 5}, {2, 6}}, {{0, 5}, {7, 6}}} {
		want(t, "views", s.Executions[i].Views, x)
		want(t, "case", s.Executions[i].Case, i/2)
	}
	want(t, "verify", execution.Verify(s), api.OK)
	for _, x := range badProblems(t) {
		want(t, "check", execution.Check(x.p), x.e)
		want(t, "count", all(execution.Count(x.p)), all(0, x.e))
		want(t, "build", all(execution.Build(x.p)), all(api.System{}, x.e))
		want(t, "verify", execution.Verify(api.System{Problem: x.p}), x.e)
	}
	for _, x := range badSystems(t) {
		want(t, "verify", execution.Verify(x.s), x.e)
	}
	free, _ := failure.Graphs(3, yes)
	big, _ := library.Consensus(3, 4)
	want(t, "limit", all(execution.Build(api.Problem{Task: big, Adversary: free, Rounds: 2})), all(api.System{}, api.ErrLimit))
	want(t, "limit", all(execution.Build(api.Problem{Task: big, Adversary: free, Rounds: 4})), all(api.System{}, api.ErrLimit))
	want(t, "limit", all(execution.Count(api.Problem{Task: big, Adversary: free, Rounds: 3})), "[0 17]")
	want(t, "limit", all(execution.Count(api.Problem{Task: big, Adversary: free, Rounds: 4})), "[0 17]")
	want(t, "count", all(execution.Count(api.Problem{Task: big, Adversary: free, Rounds: 2})), "[262144 0]")
	leader, _ := library.Leader(4)
	every, _ := failure.Graphs(4, yes)
	full := systemOf(t, leader, every, 1)
	want(t, "full", len(full.Executions), api.MaxExecutions)
	five, _ := library.Consensus(5, 4)
	complete := adversaryOf(t, 5, "01234 01234 01234 01234 01234")
	want(t, "views limit", all(execution.Build(api.Problem{Task: five, Adversary: complete, Rounds: 2})), all(api.System{}, api.ErrLimit))
	_, e := execution.Build(api.Problem{Task: five, Adversary: complete, Rounds: 1})
	want(t, "no limit", e, api.OK)
}

// P23.2: Find, Obliged, Having, Relevant and Continuing.
func TestExecutionQuestions(t *testing.T) {
	s := exampleSystem(t)
	want(t, "find", all(execution.Find(s, 1, wordOf(t, 2, "0 01"))), "[2 0]")
	want(t, "find", all(execution.Find(s, 0, wordOf(t, 2, "0 01"))), "[0 0]")
	want(t, "find", all(execution.Find(s, 1, nil)), "[0 6]")
	want(t, "find", all(execution.Find(s, 2, wordOf(t, 2, "0 01"))), "[0 6]")
	want(t, "obliged", all(execution.Obliged(s, 3)), "[3 0]")
	want(t, "obliged", all(execution.Obliged(s, 4)), "[0 6]")
	want(t, "having", all(execution.Having(s, 2)), "[[0 2] 0]")
	want(t, "having", all(execution.Having(s, 0)), "[[0 1 2 3] 0]")
	want(t, "having", all(execution.Having(s, 8)), "[[] 6]")
	want(t, "relevant", all(execution.Relevant(s)), "[[2 3 4 6 7] 0]")
	want(t, "continuing", all(execution.Continuing(s, 0)), "[[2 4 7] 0]")
	want(t, "continuing", all(execution.Continuing(s, 7)), "[[7] 0]")
	want(t, "continuing", all(execution.Continuing(s, -1)), "[[] 6]")
	crash := systemOf(t, consensusOf(t, 0), adversaryOf(t, 2, "0 01 !0 > 1, 01 01", "0 1 !0"), 1)
	want(t, "obliged", all(execution.Obliged(crash, 0)), "[2 0]")
	want(t, "relevant", all(execution.Relevant(crash)), "[[3 4] 0]")
	want(t, "continuing", all(execution.Continuing(crash, 2)), "[[] 0]")
	for _, x := range badSystems(t) {
		want(t, "find", all(execution.Find(x.s, 0, nil)), all(0, x.e))
		want(t, "obliged", all(execution.Obliged(x.s, -1)), all(0, x.e))
		want(t, "having", all(execution.Having(x.s, -1)), all([]int{}, x.e))
		want(t, "relevant", all(execution.Relevant(x.s)), all([]int{}, x.e))
		want(t, "continuing", all(execution.Continuing(x.s, -1)), all([]int{}, x.e))
	}
}

// P23.3: consequences.
func TestExecutionLaws(t *testing.T) {
	s := crashSystem(t, 2)
	words, _ := adversary.Count(s.Problem.Adversary, 2)
	want(t, "number", len(s.Executions), words*len(s.Problem.Task.Cases))
	want(t, "table", views.Check(s.Table), api.OK)
	shorter := crashSystem(t, 1)
	for i, x := range s.Executions {
		want(t, "beginning", slices.ContainsFunc(shorter.Executions, func(y api.Execution) bool { return y.Case == x.Case && y.Word[0] == x.Word[0] }), true)
		y := s.Executions[(i*37+11)%len(s.Executions)]
		for k := 1; k <= 2; k++ {
			for p := range 3 {
				same := x.Word[k-1].Graph.Hears[p] == y.Word[k-1].Graph.Hears[p]
				for q := range 3 {
					same = same && (x.Word[k-1].Graph.Hears[p]>>q&1 == 0 || x.Views[k-1][q] == y.Views[k-1][q])
				}
				want(t, "views", x.Views[k][p] == y.Views[k][p], same)
			}
		}
	}
	relevant, _ := execution.Relevant(s)
	for k := range 3 {
		number := 0
		for i, v := range s.Table.Views {
			if v.Round == k && i%7 == 0 {
				l, _ := execution.Continuing(s, i)
				for _, final := range l {
					want(t, "relevant", slices.Contains(relevant, final), true)
					want(t, "continues", all(views.Continues(s.Table, i, final)), "[true 0]")
				}
				number += len(l)
			}
		}
		want(t, "some", number > 0 || k == 0, true)
	}
}
