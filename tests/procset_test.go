package tests

import (
	"math"
	"testing"

	"roundtable/api"
	"roundtable/procset"
)

// P1.1: Check, All, Members, Of, Size and Least.
func TestProcsetElements(t *testing.T) {
	want(t, "check", []api.Errno{procset.Check(4, 13), procset.Check(1, 0), procset.Check(5, 31)}, "[0 0 0]")
	want(t, "check n", []api.Errno{procset.Check(0, 0), procset.Check(6, -1), procset.Check(math.MinInt, 0)}, "[1 1 1]")
	want(t, "check set", []api.Errno{procset.Check(4, 16), procset.Check(4, -1), procset.Check(1, math.MaxInt)}, "[2 2 2]")
	want(t, "all", all(procset.All(5)), "[31 0]")
	want(t, "all", all(procset.All(6)), "[0 1]")
	want(t, "members", all(procset.Members(4, 13)), "[[0 2 3] 0]")
	want(t, "members", all(procset.Members(4, 0)), "[[] 0]")
	want(t, "members", all(procset.Members(4, 16)), "[[] 2]")
	want(t, "of", all(procset.Of(4, []int{3, 0, 2})), "[13 0]")
	want(t, "of", all(procset.Of(4, []int{3, 4, 3})), "[0 2]")
	want(t, "of", all(procset.Of(4, []int{3, 3, 4})), "[0 7]")
	want(t, "of", all(procset.Of(0, nil)), "[0 1]")
	want(t, "size", all(procset.Size(4, 13)), "[3 0]")
	want(t, "size", all(procset.Size(4, 99)), "[0 2]")
	want(t, "least", all(procset.Least(4, 12)), "[2 0]")
	want(t, "least", all(procset.Least(4, 0)), "[0 16]")
	want(t, "least", all(procset.Least(7, 0)), "[0 1]")
}

// P1.2: Subsets, Choose, Format and Parse.
func TestProcsetSubsets(t *testing.T) {
	want(t, "subsets", all(procset.Subsets(3, 5)), "[[0 1 4 5] 0]")
	want(t, "subsets", all(procset.Subsets(3, 0)), "[[0] 0]")
	want(t, "subsets", all(procset.Subsets(3, 8)), "[[] 2]")
	want(t, "choose", all(procset.Choose(3, 5, 1)), "[[1 4] 0]")
	want(t, "choose", all(procset.Choose(3, 5, 3)), "[[] 2]")
	want(t, "choose", all(procset.Choose(3, 5, -1)), "[[] 2]")
	want(t, "choose", all(procset.Choose(0, 5, -1)), "[[] 1]")
	want(t, "format", all(procset.Format(4, 13)), "[{0,2,3} 0]")
	want(t, "format", all(procset.Format(4, 0)), "[{} 0]")
	want(t, "format", all(procset.Format(4, 16)), "[ 2]")
	for text, e := range map[string]api.Errno{
		"{0,4}": api.ErrRange, "{2,0}": api.ErrOrder, "{0,0}": api.ErrTwice, "{0, 2}": api.ErrSyntax, "{2,0,0}": api.ErrTwice,
		"": api.ErrSyntax, "}": api.ErrSyntax, "{": api.ErrSyntax, "}{": api.ErrSyntax, "0}": api.ErrSyntax, "{0": api.ErrSyntax, "{}}": api.ErrSyntax, "{01}": api.ErrSyntax, "{a}": api.ErrSyntax, "{/}": api.ErrSyntax, "{:}": api.ErrSyntax, "{9}": api.ErrRange, "{0,,1}": api.ErrSyntax, "{0,1,2,3,0,1,2,3,0,1,2,3}": api.ErrLong,
	} {
		want(t, "parse "+text, all(procset.Parse(4, text)), all(0, e))
	}
	want(t, "parse", all(procset.Parse(9, "{0,1,2,3,0,1,2,3,0,1,2,3}")), "[0 1]")
}

// P1.3: consequences.
func TestProcsetLaws(t *testing.T) {
	texts := map[string]bool{}
	for set := range 32 {
		l, _ := procset.Members(5, set)
		want(t, "of members", all(procset.Of(5, l)), all(set, api.OK))
		text, _ := procset.Format(5, set)
		want(t, "parse", all(procset.Parse(5, text)), all(set, api.OK))
		texts[text] = true
		subs, _ := procset.Subsets(5, set)
		want(t, "number", len(subs), 1<<len(l))
		for k := range l {
			some, _ := procset.Choose(5, set, k)
			rest, _ := procset.Choose(5, set, len(l)-k)
			want(t, "complements", len(some), len(rest))
			for i, sub := range some {
				want(t, "complement", set&^sub, rest[len(rest)-1-i])
			}
		}
	}
	want(t, "texts", len(texts), 32)
}
