package tests

import (
	"strings"
	"testing"

	"roundtable/api"
	"roundtable/certificate"
	"roundtable/decide"
	"roundtable/library"
)

func proofOf(l ...[]int) api.Certificate {
	return api.Certificate{Kind: api.CertificateProof, Proof: l}
}

type badCertificate struct {
	c api.Certificate
	e api.Errno
}

func badCertificates() []badCertificate {
	link := func(e, p int) api.Link { return api.Link{Execution: e, Proc: p} }
	return []badCertificate{
		{api.Certificate{}, api.ErrArg}, {api.Certificate{Kind: 4}, api.ErrArg}, {api.Certificate{Kind: 1, Values: []int{1}}, api.ErrForm}, {api.Certificate{Kind: 1, Levels: make([][][]int, 1)}, api.ErrForm}, {api.Certificate{Kind: 2, Proof: make([][]int, 1)}, api.ErrForm},
		{api.Certificate{Kind: 3, Walk: make([]api.Link, 1)}, api.ErrForm}, {api.Certificate{Kind: 1}, api.ErrEmpty}, {api.Certificate{Kind: 2, Levels: make([][][]int, 1)}, api.ErrEmpty}, {api.Certificate{Kind: 3}, api.ErrEmpty},
		{api.Certificate{Kind: 1, Walk: make([]api.Link, 4097)}, api.ErrMany}, {api.Certificate{Kind: 2, Values: make([]int, 6)}, api.ErrMany}, {api.Certificate{Kind: 3, Proof: make([][]int, 32769)}, api.ErrMany},
		{walkCertificate(link(-1, -1)), api.ErrRange}, {walkCertificate(link(0, 0)), api.ErrRange}, {walkCertificate(link(0, -1), link(0, -1)), api.ErrRange}, {walkCertificate(link(0, -1), link(api.MaxNumber+1, 0)), api.ErrRange}, {walkCertificate(link(0, -1), link(0, 5)), api.ErrRange},
		{rainbowOf([]int{8}), api.ErrRange}, {rainbowOf([]int{-1}, nil), api.ErrRange}, {rainbowOf([]int{0}), api.ErrShape}, {rainbowOf([]int{0, 1}, [][]int{nil}, make([][]int, 4097)), api.ErrMany}, {rainbowOf([]int{0, 1}, [][]int{{1}}, [][]int{nil}), api.ErrEmpty},
		{rainbowOf([]int{0}, [][]int{make([]int, 6)}), api.ErrMany}, {rainbowOf([]int{0}, [][]int{{-1}}), api.ErrRange}, {rainbowOf([]int{0}, [][]int{{api.MaxNumber + 1}}), api.ErrRange},
		{proofOf(make([]int, 4097)), api.ErrMany}, {proofOf([]int{1, 0}), api.ErrRange}, {proofOf([]int{4097}), api.ErrRange}, {proofOf([]int{-4097}), api.ErrRange},
	}
}

// P49.1: Check, Size, Format and Parse.
func TestCertificateTexts(t *testing.T) {
	w := walkCertificate(api.Link{Execution: 0, Proc: -1}, api.Link{Execution: 1, Proc: 0}, api.Link{Execution: 2, Proc: 1})
	r := rainbowOf([]int{0, 1}, [][]int{{2}}, [][]int{{2, 7}, {7, 8}})
	p := proofOf([]int{1, -2}, nil)
	for _, x := range []struct {
		c    api.Certificate
		text string
		size int
	}{
		{w, "walk 0 1/0 2/1", 3}, {r, "rainbow 0 1 | 2 | 2,7 7,8", 3}, {p, "proof (1,-2) ()", 2}, {rainbowOf([]int{3, 3}, nil, nil), "rainbow 3 3 | |", 0}, {walkCertificate(api.Link{Execution: 9, Proc: -1}), "walk 9", 1},
	} {
		want(t, "check", certificate.Check(x.c), api.OK)
		want(t, "format", all(certificate.Format(x.c)), all(x.text, api.OK))
		want(t, "parse", all(certificate.Parse(x.text)), all(x.c, api.OK))
		want(t, "size", all(certificate.Size(x.c)), all(x.size, api.OK))
	}
	for _, text := range []string{
		"", "walk", "walk ", "walk 0 1", "walk 0/1", "proof (01)", "proof", "proof ()  ()", "proof 1", "proof (1,)", "proof (+1)", "proof (0)", "rainbow", "rainbow 0", "rainbow 0 | 2,,3", "rainbow 0 |  2", "rainbow 8 |", "walk 00", "walk 1048577", "walk 0 1/5", "Walk 0", " walk 0", "proof (4097)", "proof (-0)", "walk 99999999999999999999", "rainbow 0 | 1 | 2",
	} {
		want(t, text, all(certificate.Parse(text)), all(api.Certificate{}, api.ErrSyntax))
	}
	want(t, "long", all(certificate.Parse(strings.Repeat("x", api.MaxText+1))), all(api.Certificate{}, api.ErrLong))
	many := make([]int, api.MaxVars)
	for i := range many {
		many[i] = -api.MaxVars
	}
	want(t, "many", certificate.Check(proofOf(many, []int{api.MaxVars})), api.OK)
	views := make([][]int, api.MaxSize)
	for i := range views {
		views[i] = []int{i}
	}
	want(t, "many", certificate.Check(rainbowOf([]int{0}, views)), api.OK)
	want(t, "many", certificate.Check(walkCertificate(api.Link{Execution: api.MaxNumber, Proc: -1}, api.Link{Proc: 4})), api.OK)
	want(t, "many", certificate.Check(rainbowOf([]int{7, 0, 0, 0, 0}, [][]int{{0, api.MaxNumber, 1, 2, 3}}, nil, nil, nil, nil)), api.OK)
	long := proofOf()
	for range 20000 {
		long.Proof = append(long.Proof, []int{1})
	}
	want(t, "long", all(certificate.Format(long)), "[ 13]")
	for i, x := range badCertificates() {
		name := string(rune('A' + i))
		want(t, "check "+name, certificate.Check(x.c), x.e)
		want(t, "size "+name, all(certificate.Size(x.c)), all(0, x.e))
		want(t, "format "+name, all(certificate.Format(x.c)), all("", x.e))
		want(t, "verify "+name, certificate.Verify(exampleSystem(t), x.c), x.e)
	}
}

// P49.2: Verify, Find and Witness.
func TestCertificateFind(t *testing.T) {
	s := systemOf(t, consensusOf(t, 0, 1, 3), adversaryOf(t, 2, "01 01"), 0)
	c, ok, e := certificate.Find(s)
	text, _ := certificate.Format(c)
	want(t, "find", all(text, ok, e), "[walk 0 1/0 2/1 true 0]")
	want(t, "witness", all(certificate.Witness(s, c, ruleOf(0, 0, 0, 0))), "[2 0]")
	want(t, "witness", all(certificate.Witness(s, c, ruleOf(0, 0, 1, 1))), "[1 0]")
	want(t, "witness", all(certificate.Witness(s, c, ruleOf(0))), "[0 15]")
	want(t, "witness", all(certificate.Witness(s, api.Certificate{}, ruleOf(0))), "[0 1]")
	want(t, "none", all(certificate.Find(exampleSystem(t))), all(api.Certificate{}, false, api.OK))
	lossy := adversaryOf(t, 2, "0 01, 01 1, 01 01")
	approximate, _ := library.Approximate(2, 2)
	zero := systemOf(t, approximate, lossy, 0)
	c, ok, e = certificate.Find(zero)
	want(t, "rainbow", all(ok, certificate.Verify(zero, c), e), "[true 0 0]")
	hard := api.Task{N: 2, Ins: 2, Outs: 2, Cases: []api.Case{{In: []int{0, 0}, Out: [][]int{{0, 1}}}, {In: []int{0, 1}, Out: [][]int{{0, 0}, {1, 1}}}, {In: []int{1, 1}, Out: [][]int{{0, 1}}}}}
	odd := systemOf(t, hard, lossy, 0)
	c, ok, e = certificate.Find(odd)
	want(t, "odd", all(ok, certificate.Verify(odd, c), e), "[true 0 0]")
	_, _, proof, _ := decide.Decide(zero.Problem)
	want(t, "proof", certificate.Verify(zero, proofOf(proof...)), api.OK)
	want(t, "proof", certificate.Verify(exampleSystem(t), proofOf(nil)), api.ErrProof)
	want(t, "proof", certificate.Verify(zero, proofOf([]int{99})), api.ErrRange)
	want(t, "walk", certificate.Verify(zero, walkCertificate(api.Link{Proc: -1})), api.ErrUse)
	want(t, "rainbow", certificate.Verify(s, rainbowOf([]int{5}, nil)), api.ErrRange)
	wide := wideProblem(t)
	want(t, "limit", certificate.Verify(systemOf(t, wide.Task, wide.Adversary, 1), proofOf(nil)), api.ErrLimit)
	for _, x := range badSystems(t) {
		want(t, "verify", certificate.Verify(x.s, api.Certificate{}), x.e)
		want(t, "find", all(certificate.Find(x.s)), all(api.Certificate{}, false, x.e))
		want(t, "witness", all(certificate.Witness(x.s, api.Certificate{}, ruleOf())), all(0, x.e))
	}
}

// P49.3: consequences.
func TestCertificateLaws(t *testing.T) {
	var random source
	lossy := adversaryOf(t, 2, "0 01, 01 1, 01 01")
	for i := range 60 {
		x := api.Task{N: 2, Ins: 2, Outs: 3}
		for k := range 4 {
			c := api.Case{In: []int{k / 2, k % 2}}
			for v := range 9 {
				if random.below(3) == 0 || v == 8 && len(c.Out) == 0 {
					c.Out = append(c.Out, []int{v / 3, v % 3})
				}
			}
			x.Cases = append(x.Cases, c)
		}
		s := systemOf(t, x, lossy, i%2)
		c, found, e := certificate.Find(s)
		good(t, "find", e)
		verdict, r, proof, _ := decide.Decide(s.Problem)
		want(t, "either", found, verdict == api.VerdictNo)
		if !found {
			want(t, "solves", decide.Verify(s.Problem, verdict, r, proof), api.OK)
			continue
		}
		want(t, "accepted", certificate.Verify(s, c), api.OK)
		text, _ := certificate.Format(c)
		want(t, "text", all(certificate.Parse(text)), all(c, api.OK))
		some := api.Rule{Out: make([]int, len(s.Table.Views))}
		_, e = certificate.Witness(s, c, some)
		want(t, "witness", e, api.OK)
	}
}
