package tests

import (
	"testing"

	"roundtable/api"
	"roundtable/decide"
	"roundtable/execution"
	"roundtable/library"
	"roundtable/rainbow"
)

func rainbowOf(values []int, levels ...[][]int) api.Certificate {
	return api.Certificate{Kind: api.CertificateRainbow, Values: values, Levels: levels}
}

// P48.1: Values, Labels and Verify.
func TestRainbowLabels(t *testing.T) {
	s := lossySystem(t)
	want(t, "values", all(rainbow.Values(s, 2)), "[[0] 0]")
	want(t, "values", all(rainbow.Values(s, 9)), "[[1] 0]")
	want(t, "values", all(rainbow.Values(s, 8)), "[[0 1] 0]")
	want(t, "values", all(rainbow.Values(s, 0)), "[[] 11]")
	want(t, "values", all(rainbow.Values(s, 16)), "[[] 6]")
	want(t, "values", all(rainbow.Values(s, -1)), "[[] 6]")
	want(t, "labels", all(rainbow.Labels(s, []int{1})), "[[2 2 2 2 3 3 1 1 3 3 1 1] 0]")
	want(t, "labels", all(rainbow.Labels(s, []int{0, 1})), "[[1 1 1 1 3 3 2 2 3 3 2 2] 0]")
	for _, x := range []struct {
		values []int
		e      api.Errno
	}{{nil, api.ErrMany}, {make([]int, 6), api.ErrMany}, {[]int{0, 2}, api.ErrRange}, {[]int{-1, -1}, api.ErrRange}, {[]int{1, 1, 9}, api.ErrTwice}} {
		want(t, "labels", all(rainbow.Labels(s, x.values)), all([]int{}, x.e))
		want(t, "find", all(rainbow.Find(s, x.values)), all(api.Certificate{}, false, x.e))
		want(t, "verify", rainbow.Verify(s, rainbowOf(x.values)), x.e)
	}
	right := rainbowOf([]int{0, 1}, [][]int{{2}}, [][]int{{2, 7}, {7, 8}, {8, 9}})
	want(t, "verify", rainbow.Verify(s, right), api.OK)
	for i, x := range []struct {
		c api.Certificate
		e api.Errno
	}{
		{api.Certificate{}, api.ErrArg}, {api.Certificate{Kind: api.CertificateProof}, api.ErrArg}, {api.Certificate{Kind: api.CertificateRainbow, Walk: make([]api.Link, 1)}, api.ErrForm}, {api.Certificate{Kind: api.CertificateRainbow, Proof: make([][]int, 1)}, api.ErrForm},
		{rainbowOf([]int{0, 1}, [][]int{{2}}), api.ErrShape}, {rainbowOf([]int{0, 1}, [][]int{{2, 7}}, nil), api.ErrShape}, {rainbowOf([]int{0, 1}, [][]int{{16}}, nil), api.ErrRange}, {rainbowOf([]int{0, 1}, [][]int{{2}}, [][]int{{7, 2}}), api.ErrOrder}, {rainbowOf([]int{0, 1}, [][]int{{2}}, [][]int{{2, 2}}), api.ErrOrder}, {rainbowOf([]int{0, 1}, [][]int{{2}, {2}}, nil), api.ErrOrder},
		{rainbowOf([]int{0, 1}, [][]int{{2}}, [][]int{{2, 8}}), api.ErrNone}, {rainbowOf([]int{0, 1}, [][]int{{0}}, nil), api.ErrNone}, {rainbowOf([]int{0, 1}, [][]int{{3}, {2}}, nil), api.ErrOrder}, {rainbowOf([]int{0, 1}, [][]int{{2}}, [][]int{{2, 7}, {7, 8}}), api.ErrProof},
		{rainbowOf([]int{0, 1}, nil, [][]int{{2, 7}, {7, 8}, {8, 9}}), api.ErrProof}, {rainbowOf([]int{1, 0}, [][]int{{2}}, [][]int{{2, 7}, {7, 8}, {8, 9}}), api.ErrProof}, {rainbowOf([]int{0}, [][]int{{2}}), api.ErrProof},
	} {
		want(t, string(rune('a'+i)), rainbow.Verify(s, x.c), x.e)
		want(t, string(rune('a'+i)), all(rainbow.Count(s, x.c, nil)), all(0, x.e))
	}
	for _, x := range badSystems(t) {
		want(t, "values", all(rainbow.Values(x.s, -1)), all([]int{}, x.e))
		want(t, "labels", all(rainbow.Labels(x.s, nil)), all([]int{}, x.e))
		want(t, "verify", rainbow.Verify(x.s, api.Certificate{}), x.e)
		want(t, "find", all(rainbow.Find(x.s, nil)), all(api.Certificate{}, false, x.e))
		want(t, "any", all(rainbow.Any(x.s)), all(api.Certificate{}, false, x.e))
		want(t, "count", all(rainbow.Count(x.s, api.Certificate{}, nil)), all(0, x.e))
	}
}

// P48.2: Find, Any and Count.
func TestRainbowFind(t *testing.T) {
	s := lossySystem(t)
	right := rainbowOf([]int{0, 1}, [][]int{{2}}, [][]int{{2, 7}, {7, 8}, {8, 9}})
	want(t, "find", all(rainbow.Find(s, []int{0, 1})), all(right, true, api.OK))
	want(t, "find", all(rainbow.Find(s, []int{0})), all(api.Certificate{}, false, api.OK))
	want(t, "any", all(rainbow.Any(s)), all(right, true, api.OK))
	zero := systemOf(t, consensusOf(t, 0, 1, 2, 3), adversaryOf(t, 2, "01 01"), 0)
	c, ok, e := rainbow.Any(zero)
	want(t, "any", all(ok, rainbow.Verify(zero, c), e), "[true 0 0]")
	want(t, "none", all(rainbow.Any(exampleSystem(t))), all(api.Certificate{}, false, api.OK))
	want(t, "count", all(rainbow.Count(s, right, []int{0, 0, 0, 0, 0, 1, 1, 0, 0, 0, 0, 0})), "[1 0]")
	want(t, "count", all(rainbow.Count(s, right, []int{0, 0, 0, 0, 1, 0, 1, 0, 0, 0, 0, 0})), "[3 0]")
	want(t, "count", all(rainbow.Count(s, right, []int{0})), "[0 15]")
	want(t, "count", all(rainbow.Count(s, right, []int{0, 0, 0, 0, 1, 0, 1, 0, 0, 0, 0, 2})), "[0 2]")
	wide, _ := library.SetAgreement(4, 5, 4)
	for i := range wide.Cases {
		wide.Cases[i].Out = nil
		for k := range 256 {
			wide.Cases[i].Out = append(wide.Cases[i].Out, []int{k >> 6, k >> 4 & 3, k >> 2 & 3, k & 3})
		}
	}
	want(t, "limit", all(rainbow.Find(systemOf(t, wide, adversaryOf(t, 4, "0123 0123 0123 0123"), 1), []int{0, 1, 2})), all(api.Certificate{}, false, api.ErrLimit))
	names := api.Task{N: 4, Ins: 1, Outs: 7, Cases: []api.Case{{In: []int{0, 0, 0, 0}, Out: [][]int{{0, 1, 2, 3}}}}}
	want(t, "lists", all(rainbow.Any(systemOf(t, names, adversaryOf(t, 4, "0 1 2 3"), 0))), all(api.Certificate{}, false, api.ErrLimit))
}

// P48.3: consequences.
func TestRainbowLaws(t *testing.T) {
	set, _ := library.SetAgreement(3, 3, 2)
	snap := "012 012 012, 0 012 012, 012 1 012, 012 012 2, 01 01 012, 02 012 02, 012 12 12, 0 01 012, 0 012 02, 01 1 012, 012 1 12, 02 012 2, 012 12 2"
	var random source
	for _, s := range []api.System{lossySystem(t), systemOf(t, set, adversaryOf(t, 3, snap), 1), systemOf(t, set, adversaryOf(t, 3, "0 1 2"), 0)} {
		c, ok, e := rainbow.Any(s)
		good(t, "any", e)
		want(t, "found", ok, true)
		want(t, "verified", rainbow.Verify(s, c), api.OK)
		verdict, _, _, e := decide.Decide(s.Problem)
		want(t, "no", all(verdict, e), all(api.VerdictNo, api.OK))
		relevant, _ := execution.Relevant(s)
		for range 5 {
			var out []int
			for _, view := range relevant {
				l, _ := rainbow.Values(s, view)
				out = append(out, l[random.below(len(l))])
			}
			number, e := rainbow.Count(s, c, out)
			want(t, "odd", all(number%2, e), "[1 0]")
		}
	}
}
