package tests

import (
	"testing"

	"roundtable/adversary"
	"roundtable/api"
	"roundtable/combine"
	"roundtable/failure"
)

// P18.1: Or, And and Then.
func TestCombinePairs(t *testing.T) {
	a, b := adversaryOf(t, 2, "01 01"), adversaryOf(t, 2, "0 1")
	want(t, "or", sketchAdversary(combine.Or(a, b)), "0 1 > 1, 01 01 > 2; 0 1 > 1; 01 01 > 2")
	want(t, "and", sketchAdversary(combine.And(a, b)), "error 16")
	want(t, "then", sketchAdversary(combine.Then(a, 2, b)), "01 01 > 1; 01 01 > 2; 0 1 > 2")
	want(t, "then", sketchAdversary(combine.Then(a, 0, b)), "0 1 > 0")
	faulty := adversaryOf(t, 2, "01 01 !0")
	want(t, "then", sketchAdversary(combine.Then(faulty, 1, b)), "01 01 !0 > 1; 0 1 !0 > 1")
	c := adversaryOf(t, 2, "0 1 > 1, 01 01", "01 01 > 2", "01 1 > 2, 0 1 > 0")
	d := adversaryOf(t, 2, "0 1 > 1, 01 01 > 2", "01 01 > 2, 01 1 > 1", "01 01 > 2")
	want(t, "and", sketchAdversary(combine.And(c, d)), "01 01 > 1; 01 01 > 1")
	merging := adversaryOf(t, 2, "0 1 > 1, 0 1 !1 > 2", "0 1 > 1, 01 1 > 1", "0 01 !1 > 2")
	want(t, "sets", sketchAdversary(combine.Then(adversaryOf(t, 2, "01 01 !1"), 1, merging)), "01 01 !1 > 1; 0 1 !1 > 2; 0 1 !1 > 3, 0 01 !1 > 4, 01 1 !1 > 3; 0 1 !1 > 3, 01 1 !1 > 3; 0 01 !1 > 4")
	three := adversaryOf(t, 3, "0 1 2")
	for name, f := range map[string]func(a, b api.Adversary) (api.Adversary, api.Errno){"or": combine.Or, "and": combine.And, "then": func(a, b api.Adversary) (api.Adversary, api.Errno) { return combine.Then(a, 9, b) }} {
		want(t, name, all(f(a, three)), all(api.Adversary{}, api.ErrMismatch))
		for _, x := range badAdversaries(t) {
			want(t, name, all(f(a, x.a)), all(api.Adversary{}, x.e))
			want(t, name, all(f(x.a, api.Adversary{})), all(api.Adversary{}, x.e))
		}
	}
	six, e := combine.Then(a, 6, b)
	want(t, "then", all(len(six.States), e), "[7 0]")
	want(t, "then", all(combine.Then(a, 7, b)), all(api.Adversary{}, api.ErrRange))
	want(t, "then", all(combine.Then(a, -1, b)), all(api.Adversary{}, api.ErrRange))
	wide, _ := failure.Graphs(4, yes)
	want(t, "moves", all(combine.Then(wide, 1, wide)), all(api.Adversary{}, api.ErrLimit))
	ring := func(n int, odd string) api.Adversary {
		x := api.Adversary{N: 2}
		for s := range n {
			text := "0 1"
			if s == 0 {
				text = odd
			}
			x.States = append(x.States, []api.Move{{Round: wordOf(t, 2, text)[0], To: (s + 1) % n}})
		}
		return x
	}
	want(t, "states", all(combine.And(ring(17, "0 1"), ring(16, "0 1"))), all(api.Adversary{}, api.ErrLimit))
	want(t, "empty", all(combine.And(ring(15, "0 1"), ring(16, "01 01"))), all(api.Adversary{}, api.ErrEmpty))
}

// P18.2: Scheme and Build.
func TestCombineSchemes(t *testing.T) {
	a, b := adversaryOf(t, 2, "01 01"), adversaryOf(t, 2, "0 1")
	named := []api.Adversary{a, b}
	ref := func(i int) api.Scheme { return api.Scheme{Num: i} }
	tree := func(op, number int, l ...api.Scheme) api.Scheme { return api.Scheme{Op: op, Num: number, Args: l} }
	want(t, "ref", sketchAdversary(combine.Scheme(2, named, ref(1))), "0 1 > 0")
	want(t, "rule", sketchAdversary(combine.Scheme(2, nil, api.Scheme{Op: api.SchemeSnapshot})), "0 01 > 0, 01 1 > 0, 01 01 > 0")
	want(t, "or", sketchAdversary(combine.Scheme(2, named, tree(api.SchemeOr, 0, ref(0), ref(1)))), sketchAdversary(combine.Or(a, b)))
	want(t, "then", sketchAdversary(combine.Scheme(2, named, tree(api.SchemeThen, 2, ref(0), ref(1)))), sketchAdversary(combine.Then(a, 2, b)))
	for n, moves := range map[int]int{1: 1, 4: 75, 5: 541} {
		a, e := combine.Scheme(n, nil, api.Scheme{Op: api.SchemeSnapshot})
		good(t, "scheme", e)
		want(t, "moves", len(a.States[0]), moves)
	}
	empty := tree(api.SchemeAnd, 0, ref(0), ref(1))
	want(t, "and", all(combine.Scheme(2, named, empty)), all(api.Adversary{}, api.ErrEmpty))
	wide := api.Scheme{Op: api.SchemeSend, Num: 5}
	for _, x := range []struct {
		n     int
		named []api.Adversary
		s     api.Scheme
		e     api.Errno
	}{
		{0, make([]api.Adversary, 1025), ref(9), api.ErrRange}, {2, make([]api.Adversary, 1025), ref(9), api.ErrMany}, {2, []api.Adversary{a, {}}, ref(9), api.ErrRange}, {3, named, ref(9), api.ErrMismatch}, {2, named, ref(2), api.ErrName},
		{5, nil, wide, api.ErrLimit}, {2, named, tree(api.SchemeOr, 0, empty, wide), api.ErrEmpty}, {2, named, tree(api.SchemeOr, 0, wide, empty), api.ErrRange}, {2, named, tree(api.SchemeOr, 1, ref(0), ref(0)), api.ErrForm},
	} {
		want(t, "scheme", all(combine.Scheme(x.n, x.named, x.s)), all(api.Adversary{}, x.e))
	}
	p := programOf(t, exampleProgram)
	l, e := combine.Build(p)
	good(t, "build", e)
	want(t, "first", sketchAdversary(l[0], e), sketchAdversary(failure.Graphs(2, condOf(t, "hears(1, 0)"))))
	want(t, "second", sketchAdversary(l[1], e), sketchAdversary(combine.Scheme(2, l[:1], p.Adversaries[1].Scheme)))
	p.Tasks[0].Ins = 0
	want(t, "build", all(combine.Build(p)), "[[] 2]")
	want(t, "build", all(combine.Build(programOf(t, "processes 2; adversary a = graphs(not hears(0, 0)); adversary b = crash(5);"))), "[[] 16]")
}

// P18.3: consequences.
func TestCombineLaws(t *testing.T) {
	crash, _ := failure.Crash(3, 1)
	send, _ := failure.Send(3, 1)
	part, _ := failure.Partition(3, 1)
	snap, _ := failure.Snapshot(3)
	l := []api.Adversary{crash, send, part, snap}
	count := func(a api.Adversary, k int) int { n, _ := adversary.Count(a, k); return n }
	for _, a := range l {
		for _, b := range l {
			or, e := combine.Or(a, b)
			good(t, "or", e)
			want(t, "check", adversary.Check(or), api.OK)
			zero, e := combine.Then(a, 0, b)
			good(t, "then", e)
			seq, e := combine.Then(a, 1, b)
			good(t, "then", e)
			want(t, "check", adversary.Check(seq), api.OK)
			for k := range 3 {
				both := 0
				words, _ := adversary.Words(a, k)
				for _, w := range words {
					if ok, _ := adversary.Allows(b, w); ok {
						both++
					}
					want(t, "or", all(adversary.Allows(or, w)), "[true 0]")
				}
				want(t, "number", count(or, k), count(a, k)+count(b, k)-both)
				want(t, "zero", count(zero, k), count(b, k))
			}
			first, _ := adversary.Words(a, 1)
			second, _ := adversary.Words(b, 1)
			for _, u := range first {
				for _, v := range second {
					r := v[0]
					r.Faulty |= u[0].Faulty
					want(t, "then", all(adversary.Allows(seq, []api.Round{u[0], r})), "[true 0]")
				}
			}
			and, e := combine.And(a, or)
			good(t, "and", e)
			for k := range 4 {
				want(t, "absorb", count(and, k), count(a, k))
			}
		}
	}
}
