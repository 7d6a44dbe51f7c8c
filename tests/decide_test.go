package tests

import (
	"testing"

	"roundtable/api"
	"roundtable/decide"
	"roundtable/encode"
	"roundtable/failure"
	"roundtable/library"
	"roundtable/refute"
	"roundtable/rule"
	"roundtable/solver"
)

// problemOf makes a problem of the consensus of two processes.
func problemOf(t *testing.T, rounds int, states ...string) api.Problem {
	t.Helper()
	return api.Problem{Task: consensusOf(t, 0, 1, 2, 3), Adversary: adversaryOf(t, 2, states...), Rounds: rounds}
}

// largeProblem has too many executions.
func largeProblem(t *testing.T) api.Problem {
	t.Helper()
	x, _ := library.Consensus(3, 4)
	a, _ := failure.Graphs(3, yes)
	return api.Problem{Task: x, Adversary: a, Rounds: 2}
}

// wideProblem has too many variables.
func wideProblem(t *testing.T) api.Problem {
	t.Helper()
	x, _ := library.SetAgreement(4, 5, 4)
	return api.Problem{Task: x, Adversary: adversaryOf(t, 4, "0123 0123 0123 0123"), Rounds: 1}
}

// P46.1: Decide.
func TestDecideDecide(t *testing.T) {
	no := problemOf(t, 1, "0 01, 01 1, 01 01")
	verdict, r, proof, e := decide.Decide(no)
	want(t, "no", all(verdict, len(r.Out), decide.Verify(no, verdict, r, proof), e), "[2 0 0 0]")
	one := problemOf(t, 1, "01 01")
	verdict, r, proof, e = decide.Decide(one)
	want(t, "yes", all(verdict, len(proof), decide.Verify(one, verdict, r, proof), e), "[1 0 0 0]")
	s := systemOf(t, one.Task, one.Adversary, 1)
	want(t, "early", all(rule.Early(s, r)), all(r, api.OK))
	for _, x := range badProblems(t) {
		want(t, "decide", all(decide.Decide(x.p)), all(0, api.Rule{}, []int{}, x.e))
		want(t, "verify", decide.Verify(x.p, 9, r, proof), x.e)
		want(t, "rounds", all(decide.Rounds(x.p)), all(0, x.e))
		want(t, "solutions", all(decide.Solutions(x.p)), all(0, x.e))
	}
	for _, p := range []api.Problem{largeProblem(t), wideProblem(t)} {
		want(t, "limit", all(decide.Decide(p)), all(0, api.Rule{}, []int{}, api.ErrLimit))
		want(t, "limit", all(decide.Solutions(p)), "[0 17]")
	}
	want(t, "limit", all(decide.Rounds(largeProblem(t))), "[0 17]")
	want(t, "limit", all(decide.Rounds(problemOf(t, 6, "0 01, 01 1, 01 01"))), "[0 17]")
}

// P46.2: Verify, Rounds and Solutions.
func TestDecideVerify(t *testing.T) {
	no, one := problemOf(t, 1, "0 01, 01 1, 01 01"), problemOf(t, 1, "01 01")
	_, r, _, _ := decide.Decide(one)
	_, _, proof, _ := decide.Decide(no)
	for i, x := range []struct {
		p       api.Problem
		verdict int
		r       api.Rule
		proof   [][]int
		e       api.Errno
	}{
		{one, 0, r, proof, api.ErrArg}, {one, 3, r, proof, api.ErrArg}, {one, api.VerdictYes, api.Rule{}, proof, api.ErrForm}, {one, api.VerdictYes, api.Rule{}, nil, api.ErrShape}, {one, api.VerdictYes, api.Rule{Out: make([]int, 12)}, nil, api.ErrProof},
		{no, api.VerdictNo, api.Rule{Out: []int{9}}, nil, api.ErrForm}, {no, api.VerdictNo, api.Rule{}, nil, api.ErrProof}, {no, api.VerdictNo, api.Rule{}, [][]int{{99}}, api.ErrRange}, {one, api.VerdictNo, api.Rule{}, [][]int{{}}, api.ErrProof}, {wideProblem(t), api.VerdictNo, api.Rule{}, nil, api.ErrLimit},
	} {
		want(t, string(rune('a'+i)), decide.Verify(x.p, x.verdict, x.r, x.proof), x.e)
	}
	one.Rounds = 4
	want(t, "rounds", all(decide.Rounds(one)), "[1 0]")
	no.Rounds = 2
	want(t, "rounds", all(decide.Rounds(no)), "[0 6]")
	zero := api.Problem{Task: consensusOf(t, 0, 1), Adversary: one.Adversary, Rounds: 2}
	want(t, "rounds", all(decide.Rounds(zero)), "[0 0]")
	want(t, "solutions", all(decide.Solutions(exampleSystem(t).Problem)), "[1 0]")
	want(t, "solutions", all(decide.Solutions(problemOf(t, 1, "01 01"))), "[4 0]")
	want(t, "solutions", all(decide.Solutions(problemOf(t, 1, "0 01, 01 1, 01 01"))), "[0 0]")
	free, _ := library.Leader(3)
	many := api.Problem{Task: free, Adversary: adversaryOf(t, 3, "0 1 2, 0 01 2, 0 1 12, 0 01 12, 01 1 2, 01 01 2"), Rounds: 2}
	want(t, "limit", all(decide.Solutions(many)), "[0 17]")
}

// P46.3: consequences.
func TestDecideLaws(t *testing.T) {
	crash, _ := failure.Crash(3, 1)
	consensus, _ := library.Consensus(3, 2)
	renaming, _ := library.Renaming(2, 3, 3)
	less, _ := library.Renaming(2, 3, 2)
	approximate, _ := library.Approximate(2, 2)
	lossy := adversaryOf(t, 2, "0 01, 01 1, 01 01")
	for i, x := range []struct {
		p   api.Problem
		yes bool
	}{
		{api.Problem{Task: consensus, Adversary: crash, Rounds: 1}, false}, {api.Problem{Task: consensus, Adversary: crash, Rounds: 2}, true}, {api.Problem{Task: approximate, Adversary: lossy, Rounds: 0}, false}, {api.Problem{Task: approximate, Adversary: lossy, Rounds: 1}, true},
		{api.Problem{Task: renaming, Adversary: lossy, Rounds: 0}, true}, {api.Problem{Task: less, Adversary: lossy, Rounds: 0}, true}, {problemOf(t, 2, "0 01, 01 1, 01 01"), false}, {problemOf(t, 2, "0 01, 01 01"), true},
	} {
		verdict, r, proof, e := decide.Decide(x.p)
		good(t, "decide", e)
		name := string(rune('a' + i))
		want(t, name, verdict == api.VerdictYes, x.yes)
		want(t, name, decide.Verify(x.p, verdict, r, proof), api.OK)
		s := systemOf(t, x.p.Task, x.p.Adversary, x.p.Rounds)
		c, _ := encode.Encode(s)
		if !x.yes {
			_, e := refute.Verify(c, proof)
			want(t, name, e, api.OK)
		}
		v, _, _, _ := solver.Solve(c)
		want(t, name, v, verdict)
		if number, e := decide.Solutions(x.p); e == api.OK {
			want(t, name, number > 0, x.yes)
			if c.Vars <= 20 && x.yes {
				want(t, name, number > 0, true)
			}
		}
		k, e := decide.Rounds(x.p)
		if x.yes {
			good(t, "rounds", e)
			shorter := x.p
			shorter.Rounds = k
			v, _, _, _ := decide.Decide(shorter)
			want(t, name, v, api.VerdictYes)
		} else {
			want(t, name, e, api.ErrNone)
		}
	}
}
