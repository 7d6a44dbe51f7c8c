package tests

import (
	"strings"
	"testing"

	"roundtable/api"
	"roundtable/graph"
	"roundtable/permutation"
	"roundtable/round"
)

// wordOf reads a word.
func wordOf(t *testing.T, n int, text string) []api.Round {
	t.Helper()
	l, e := round.Parse(n, text)
	good(t, text, e)
	return l
}

// P15.1: Check, Compare, Permute and Word.
func TestRoundWords(t *testing.T) {
	l := wordOf(t, 3, "012 012 012 / 01 01 2 !2")
	want(t, "check", round.Check(l[1]), api.OK)
	want(t, "check", round.Check(api.Round{Graph: l[1].Graph, Faulty: 8}), api.ErrRange)
	want(t, "check", round.Check(api.Round{Graph: l[1].Graph, Faulty: -1}), api.ErrRange)
	for _, x := range badGraphs {
		want(t, "check", round.Check(api.Round{Graph: x.g, Faulty: -1}), x.e)
		want(t, "permute", all(round.Permute(api.Round{Graph: x.g}, nil)), all(api.Round{}, x.e))
	}
	want(t, "compare", []int{round.Compare(l[0], l[1]), round.Compare(l[1], l[0]), round.Compare(l[1], l[1]), round.Compare(api.Round{Faulty: 1}, api.Round{Faulty: -1})}, "[1 -1 0 1]")
	r, e := round.Permute(l[1], []int{1, 2, 0})
	text, _ := round.Format(3, []api.Round{r})
	want(t, "permute", all(text, e), "[0 12 12 !0 0]")
	want(t, "permute", all(round.Permute(l[1], []int{1, 0})), all(api.Round{}, api.ErrMismatch))
	want(t, "permute", all(round.Permute(l[1], nil)), all(api.Round{}, api.ErrRange))
	want(t, "word", round.Word(3, l), api.OK)
	want(t, "word", round.Word(3, nil), api.OK)
	want(t, "word", round.Word(0, l), api.ErrArg)
	want(t, "word", round.Word(3, make([]api.Round, 1025)), api.ErrMany)
	want(t, "word", round.Word(3, []api.Round{l[0], {}}), api.ErrRange)
	want(t, "word", round.Word(2, l), api.ErrMismatch)
	want(t, "word", round.Word(3, []api.Round{l[1], l[0]}), api.ErrOrder)
}

// P15.2: Faulty, Obliged, Product, Format and Parse.
func TestRoundTexts(t *testing.T) {
	l := wordOf(t, 3, "012 012 012 / 01 01 2 !2")
	want(t, "faulty", all(round.Faulty(3, l)), "[4 0]")
	want(t, "obliged", all(round.Obliged(3, l)), "[3 0]")
	want(t, "faulty", all(round.Faulty(3, nil)), "[0 0]")
	want(t, "obliged", all(round.Obliged(3, nil)), "[7 0]")
	want(t, "product", graphText(round.Product(3, l)), "012 012 012")
	want(t, "product", graphText(round.Product(3, wordOf(t, 3, "0 01 2 / 0 1 12"))), "0 01 012")
	want(t, "product", graphText(round.Product(2, nil)), "0 1")
	want(t, "format", all(round.Format(3, l)), "[012 012 012 / 01 01 2 !2 0]")
	bad := []api.Round{l[1], l[0]}
	want(t, "faulty", all(round.Faulty(3, bad)), "[0 14]")
	want(t, "obliged", all(round.Obliged(3, bad)), "[0 14]")
	want(t, "product", all(round.Product(3, bad)), all(api.Graph{}, api.ErrOrder))
	want(t, "format", all(round.Format(3, bad)), "[ 14]")
	for _, x := range []struct {
		n    int
		text string
		e    api.Errno
	}{
		{0, "0 1", api.ErrArg}, {2, strings.Repeat(" ", api.MaxText+1), api.ErrLong}, {2, " ", api.ErrSyntax}, {2, "0 1 !", api.ErrSyntax}, {2, "0 1 !a", api.ErrSyntax}, {2, "0 1 !10", api.ErrSyntax}, {2, "0 1 !00", api.ErrSyntax},
		{2, "0 1 !9", api.ErrRange}, {2, "0 1 !019", api.ErrRange}, {2, "0 1 /0 1", api.ErrSyntax}, {2, "0 1 / ", api.ErrSyntax}, {2, "0 1 !0 !1", api.ErrSyntax}, {3, "0 1", api.ErrMismatch}, {2, "0 1 !0 / 0 1", api.ErrOrder}, {2, "1 1", api.ErrSyntax},
		{1, "0" + strings.Repeat(" / 0", 1024), api.ErrMany}, {2, "0 1 !9 / x", api.ErrSyntax},
	} {
		want(t, x.text, all(round.Parse(x.n, x.text)), all([]int{}, x.e))
	}
}

// P15.2: the text of the empty word is none.
func TestRoundEmptyWord(t *testing.T) {
	for n := 1; n <= api.MaxProcs; n++ {
		want(t, "format", all(round.Format(n, nil)), "[none 0]")
		want(t, "format", all(round.Format(n, []api.Round{})), "[none 0]")
		want(t, "parse", all(round.Parse(n, "none")), all([]int{}, api.OK))
		for _, text := range []string{"", " ", "None", "NONE", " none", "none ", "nonenone", "none none", "none / none", "none / 0", "0 / none", "none !0", "none\n", "0 1 / none", " / ", "/"} {
			want(t, text, all(round.Parse(n, text)), all([]int{}, api.ErrSyntax))
		}
	}
	for _, n := range []int{-1, 0, api.MaxProcs + 1} {
		want(t, "format", all(round.Format(n, nil)), all("", api.ErrArg))
		want(t, "parse", all(round.Parse(n, "none")), all([]int{}, api.ErrArg))
	}
	want(t, "long", all(round.Parse(3, "none"+strings.Repeat(" ", api.MaxText))), all([]int{}, api.ErrLong))
}

// P15.3: consequences.
func TestRoundLaws(t *testing.T) {
	var random source
	graphs, _ := graph.All(3)
	pi, rho := []int{1, 2, 0}, []int{1, 0, 2}
	both, _ := permutation.Compose(rho, pi)
	for range 200 {
		var l, renamed []api.Round
		for k := range 4 {
			r := api.Round{Graph: graphs[random.below(len(graphs))], Faulty: []int{0, 2, 2, 6}[k]}
			l = append(l, r)
			s, _ := round.Permute(r, pi)
			renamed = append(renamed, s)
			x, _ := round.Permute(s, rho)
			want(t, "composition", all(round.Permute(r, both)), all(x, api.OK))
		}
		a, _ := round.Product(3, l[:2])
		b, _ := round.Product(3, l[2:])
		want(t, "product", graphText(round.Product(3, l)), graphText(graph.Compose(a, b)))
		p, _ := round.Product(3, l)
		want(t, "renamed", graphText(round.Product(3, renamed)), graphText(graph.Permute(p, pi)))
		want(t, "faulty", all(round.Faulty(3, renamed)), "[5 0]")
		seen := map[string]bool{}
		for k := range len(l) + 1 {
			text, _ := round.Format(3, l[:k])
			want(t, "text", all(round.Parse(3, text)), all(l[:k], api.OK))
			want(t, "different", seen[text], false)
			seen[text] = true
		}
	}
}
