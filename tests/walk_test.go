package tests

import (
	"testing"

	"roundtable/api"
	"roundtable/decide"
	"roundtable/indistinct"
	"roundtable/library"
	"roundtable/rule"
	"roundtable/task"
	"roundtable/walk"
)

func walkCertificate(l ...api.Link) api.Certificate {
	return api.Certificate{Kind: api.CertificateWalk, Walk: l}
}

// P47.1: Values, Choice and Rule.
func TestWalkValues(t *testing.T) {
	s := systemOf(t, consensusOf(t, 0, 1, 3), adversaryOf(t, 2, "0 01, 01 01"), 1)
	for e, l := range [][]int{{0}, {0}, {0, 1}, {0, 1}, {1}, {1}} {
		want(t, "values", all(walk.Values(s, e)), all(l, api.OK))
	}
	want(t, "values", all(walk.Values(s, 6)), "[[] 6]")
	want(t, "choice", all(walk.Choice(s)), "[[0 0 0 0 1 1] 0]")
	r, ok, e := walk.Rule(s)
	want(t, "rule", all(ok, e), "[true 0]")
	want(t, "solves", all(rule.Solves(s, r)), "[true 0 0]")
	calm := systemOf(t, calmTask(), adversaryOf(t, 2, "01 01, 0 01 !0 > 1", "0 1 !0"), 1)
	want(t, "calm", all(walk.Values(calm, 2)), "[[0 1] 0]")
	want(t, "calm", all(walk.Values(calm, 3)), "[[1] 0]")
	lossy := lossySystem(t)
	want(t, "choice", all(walk.Choice(lossy)), "[[-1 -1 -1 -1 -1 -1 -1 -1 -1 -1 -1 -1] 0]")
	want(t, "rule", all(walk.Rule(lossy)), "[{[]} false 0]")
	leader, _ := library.Leader(2)
	bad := append(badSystems(t), badSystem{systemOf(t, leader, adversaryOf(t, 2, "0 1"), 1), api.ErrUse})
	for _, x := range bad {
		want(t, "values", all(walk.Values(x.s, -1)), all([]int{}, x.e))
		want(t, "choice", all(walk.Choice(x.s)), all([]int{}, x.e))
		want(t, "rule", all(walk.Rule(x.s)), all(api.Rule{}, false, x.e))
		want(t, "find", all(walk.Find(x.s)), all(api.Certificate{}, false, x.e))
		want(t, "verify", walk.Verify(x.s, api.Certificate{}), x.e)
		want(t, "shorten", all(walk.Shorten(x.s, api.Certificate{})), all(api.Certificate{}, x.e))
	}
}

// P47.2: Find, Verify and Shorten.
func TestWalkFind(t *testing.T) {
	zero := systemOf(t, consensusOf(t, 0, 1, 3), adversaryOf(t, 2, "01 01"), 0)
	c, ok, e := walk.Find(zero)
	want(t, "find", all(c.Walk, ok, e), "[[{0 -1} {1 0} {2 1}] true 0]")
	want(t, "shorten", all(walk.Shorten(zero, c)), all(c, api.OK))
	one := systemOf(t, consensusOf(t, 0, 1, 3), adversaryOf(t, 2, "0 01, 01 1, 01 01"), 1)
	c, ok, e = walk.Find(one)
	want(t, "find", all(c.Walk[0], c.Walk[len(c.Walk)-1].Execution >= 6, ok, e), "[{0 -1} true true 0]")
	want(t, "verify", walk.Verify(one, c), api.OK)
	want(t, "none", all(walk.Find(systemOf(t, consensusOf(t, 0, 1, 3), adversaryOf(t, 2, "0 01, 01 01"), 1))), all(api.Certificate{}, false, api.OK))
	three, _ := library.Consensus(2, 3)
	three, _ = task.Restrict(three, []int{0, 4, 5, 8})
	c, ok, e = walk.Find(systemOf(t, three, adversaryOf(t, 2, "01 01"), 0))
	want(t, "second component", all(c.Walk, ok, e), "[[{1 -1} {2 0} {3 1}] true 0]")
	circle := problemOf(t, 6, "0 01, 01 1, 01 01")
	want(t, "limit", all(walk.Find(systemOf(t, circle.Task, circle.Adversary, 6))), all(api.Certificate{}, false, api.ErrLimit))
	for i, x := range []struct {
		c api.Certificate
		e api.Errno
	}{
		{api.Certificate{}, api.ErrArg}, {api.Certificate{Kind: api.CertificateRainbow}, api.ErrArg}, {api.Certificate{Kind: api.CertificateWalk, Values: []int{1}}, api.ErrForm}, {api.Certificate{Kind: api.CertificateWalk, Levels: make([][][]int, 1)}, api.ErrForm},
		{api.Certificate{Kind: api.CertificateWalk, Proof: make([][]int, 1)}, api.ErrForm}, {walkCertificate(), api.ErrEmpty}, {walkCertificate(api.Link{Execution: 0, Proc: -1}, api.Link{Execution: 1, Proc: 1}), api.ErrProof},
		{walkCertificate(api.Link{Execution: 0, Proc: -1}, api.Link{Execution: 1, Proc: 0}), api.ErrProof}, {walkCertificate(api.Link{Execution: 0, Proc: 0}), api.ErrForm},
	} {
		want(t, string(rune('a'+i)), walk.Verify(zero, x.c), x.e)
		want(t, string(rune('a'+i)), all(walk.Shorten(zero, x.c)), all(api.Certificate{}, x.e))
	}
	link := func(e, p int) api.Link { return api.Link{Execution: e, Proc: p} }
	long := walkCertificate(link(1, -1), link(0, 0), link(0, 1), link(1, 0), link(2, 1), link(1, 1), link(1, 0))
	want(t, "shorten", all(walk.Shorten(zero, long)), all(walkCertificate(link(0, -1), link(1, 0), link(2, 1)), api.OK))
	want(t, "cut", all(walk.Shorten(zero, walkCertificate(link(0, -1), link(0, 1), link(1, 0), link(1, 1), link(2, 1)))), all(walkCertificate(link(0, -1), link(1, 0), link(2, 1)), api.OK))
}

// P47.3: consequences.
func TestWalkLaws(t *testing.T) {
	crash := crashSystem(t, 1)
	for _, s := range []api.System{lossySystem(t), crash, crashSystem(t, 2), systemOf(t, calmTask(), adversaryOf(t, 2, "01 01"), 1), systemOf(t, consensusOf(t, 0, 1, 2, 3), adversaryOf(t, 2, "0 01, 01 01"), 2)} {
		c, found, e := walk.Find(s)
		good(t, "find", e)
		r, ok, _ := walk.Rule(s)
		want(t, "either", ok, !found)
		verdict, _, _, _ := decide.Decide(s.Problem)
		want(t, "decide", verdict == api.VerdictYes, ok)
		if ok {
			want(t, "solves", all(rule.Solves(s, r)), "[true 0 0]")
			continue
		}
		want(t, "accepted", walk.Verify(s, c), api.OK)
		short, e := walk.Shorten(s, c)
		good(t, "shorten", e)
		want(t, "short", walk.Verify(s, short), api.OK)
		l := short.Walk
		want(t, "last", walk.Verify(s, walkCertificate(l[:len(l)-1]...)), api.ErrProof)
		rest := append([]api.Link{}, l[1:]...)
		rest[0].Proc = -1
		want(t, "first", walk.Verify(s, walkCertificate(rest...)), api.ErrProof)
		back := []api.Link{{Execution: l[len(l)-1].Execution, Proc: -1}}
		for i := len(l) - 1; i > 0; i-- {
			back = append(back, api.Link{Execution: l[i-1].Execution, Proc: l[i].Proc})
		}
		want(t, "back", walk.Verify(s, walkCertificate(back...)), api.OK)
		want(t, "walk", indistinct.Verify(s, l), api.OK)
	}
}
