package tests

import (
	"slices"
	"testing"

	"roundtable/api"
	"roundtable/decide"
	"roundtable/partition"
	"roundtable/quotient"
	"roundtable/views"
)

// nobody is the rule without decisions.
func nobody(s api.System) api.Rule {
	return api.Rule{Out: slices.Repeat([]int{-1}, len(s.Table.Views))}
}

// P52.1: Classes, Size and Verify.
func TestQuotientClasses(t *testing.T) {
	s := exampleSystem(t)
	none, six := nobody(s), ruleOf(-1, -1, -1, -1, -1, -1, 1, -1)
	want(t, "classes", all(quotient.Classes(s, none)), "[[0 1 2 3 2 1 3 2] 0]")
	want(t, "classes", all(quotient.Classes(s, six)), "[[0 1 2 3 2 4 5 2] 0]")
	want(t, "size", all(quotient.Size(s, none)), "[4 0]")
	want(t, "size", all(quotient.Size(s, six)), "[6 0]")
	for i, x := range []struct {
		r       api.Rule
		classes []int
		e       api.Errno
	}{
		{none, []int{0, 1, 2, 3, 2, 1, 3, 2}, api.OK}, {none, []int{0, 1, 2, 3, 4, 5, 6, 7}, api.OK}, {six, []int{0, 1, 2, 3, 2, 1, 3, 2}, api.ErrProof}, {six, []int{0, 1, 2, 3, 2, 4, 5, 2}, api.OK}, {none, []int{0, 1, 2, 3, 2, 1, 4, 2}, api.ErrProof},
		{none, []int{0, 0, 1, 2, 1, 0, 2, 1}, api.ErrProof}, {none, []int{0, 1, 0, 2, 3, 1, 2, 0}, api.ErrProof}, {none, []int{1}, api.ErrOrder}, {none, []int{0}, api.ErrShape},
	} {
		want(t, string(rune('a'+i)), quotient.Verify(s, x.r, x.classes), x.e)
	}
	for _, x := range badSystems(t) {
		want(t, "classes", all(quotient.Classes(x.s, none)), all([]int{}, x.e))
		want(t, "size", all(quotient.Size(x.s, none)), all(0, x.e))
		want(t, "verify", quotient.Verify(x.s, none, []int{1}), x.e)
		want(t, "distinguish", all(quotient.Distinguish(x.s, none, -1, 0)), all([]int{}, false, x.e))
		want(t, "apart", quotient.Apart(x.s, none, -1, 0, nil), x.e)
	}
	for _, x := range []struct {
		r api.Rule
		e api.Errno
	}{{ruleOf(0), api.ErrShape}, {ruleOf(0, -1, 1, -1, 0, -1, -1, 0), api.ErrState}} {
		want(t, "classes", all(quotient.Classes(s, x.r)), all([]int{}, x.e))
		want(t, "size", all(quotient.Size(s, x.r)), all(0, x.e))
		want(t, "verify", quotient.Verify(s, x.r, []int{1}), x.e)
		want(t, "distinguish", all(quotient.Distinguish(s, x.r, -1, 0)), all([]int{}, false, x.e))
		want(t, "apart", quotient.Apart(s, x.r, -1, 0, nil), x.e)
	}
}

// P52.2: Distinguish and Apart.
func TestQuotientPaths(t *testing.T) {
	s := exampleSystem(t)
	none, six := nobody(s), ruleOf(-1, -1, -1, -1, -1, -1, 1, -1)
	want(t, "distinguish", all(quotient.Distinguish(s, six, 5, 1)), "[[1 3] true 0]")
	want(t, "distinguish", all(quotient.Distinguish(s, none, 5, 1)), "[[] false 0]")
	want(t, "distinguish", all(quotient.Distinguish(s, six, 6, 3)), "[[3] true 0]")
	want(t, "distinguish", all(quotient.Distinguish(s, six, 4, 2)), "[[] false 0]")
	want(t, "distinguish", all(quotient.Distinguish(s, six, 2, 8)), "[[] false 6]")
	for _, bad := range [][2]int{{-1, 0}, {0, -1}, {8, 0}, {0, 8}} {
		want(t, "none", all(quotient.Distinguish(s, six, bad[0], bad[1])), "[[] false 6]")
		want(t, "none", quotient.Apart(s, six, bad[0], bad[1], nil), api.ErrNone)
	}
	want(t, "distinguish", all(quotient.Distinguish(s, six, 0, 1)), "[[] false 22]")
	want(t, "distinguish", all(quotient.Distinguish(s, six, 0, 2)), "[[] false 22]")
	gap := systemOf(t, consensusOf(t, 0, 1, 2), adversaryOf(t, 2, "01 01"), 1)
	want(t, "gap", all(quotient.Distinguish(gap, nobody(gap), 1, 4)), "[[1 8] true 0]")
	for i, x := range []struct {
		path []int
		e    api.Errno
	}{
		{nil, api.ErrEmpty}, {make([]int, 8), api.ErrMany}, {make([]int, 7), api.ErrProof}, {[]int{1, 8}, api.ErrNone}, {[]int{1}, api.ErrProof}, {[]int{1, 3}, api.OK}, {[]int{5, 6}, api.OK}, {[]int{1, 6}, api.ErrProof}, {[]int{0, 3}, api.ErrProof}, {[]int{1, 4}, api.ErrProof}, {[]int{1, 3, 3}, api.ErrProof},
	} {
		want(t, string(rune('a'+i)), quotient.Apart(s, six, 1, 5, x.path), x.e)
	}
	want(t, "same", quotient.Apart(s, six, 1, 1, []int{1, 3}), api.ErrProof)
	want(t, "apart", quotient.Apart(s, six, 0, 9, nil), api.ErrNone)
	want(t, "apart", quotient.Apart(s, six, 0, 1, nil), api.ErrMismatch)
}

// P52.3: consequences.
func TestQuotientLaws(t *testing.T) {
	for _, s := range []api.System{lossySystem(t), crashSystem(t, 1), systemOf(t, consensusOf(t, 0, 1, 2, 3), adversaryOf(t, 2, "0 01, 01 01 > 1", "01 1, 01 01"), 2)} {
		rules := []api.Rule{nobody(s)}
		if verdict, r, _, _ := decide.Decide(s.Problem); verdict == api.VerdictYes {
			rules = append(rules, r)
		}
		base, _ := quotient.Classes(s, rules[0])
		for _, r := range rules {
			l, e := quotient.Classes(s, r)
			good(t, "classes", e)
			want(t, "fits", quotient.Verify(s, r, l), api.OK)
			want(t, "finer", all(partition.Finer(l, base)), "[true 0]")
			number, _ := partition.Count(l)
			want(t, "size", all(quotient.Size(s, r)), all(number, api.OK))
			for v := 0; v < len(l); v += 1 + len(l)/40 {
				for w := range l {
					if s.Table.Views[v].Proc != s.Table.Views[w].Proc || s.Table.Views[v].Round != s.Table.Views[w].Round || (w*7)%3 != 0 {
						continue
					}
					path, ok, _ := quotient.Distinguish(s, r, v, w)
					want(t, "distinguished", ok, l[v] != l[w])
					if ok {
						want(t, "apart", quotient.Apart(s, r, v, w, path), api.OK)
					}
				}
			}
		}
	}
	s := exampleSystem(t)
	text, _ := views.Text(s.Table, 3)
	want(t, "table", text, "1(0:0,1:0)")
}
