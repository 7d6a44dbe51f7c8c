package tests

import (
	"testing"

	"roundtable/api"
	"roundtable/message"
	"roundtable/partition"
	"roundtable/quotient"
)

// P53.1: Symbols, Count and Bits.
func TestMessageSymbols(t *testing.T) {
	s := exampleSystem(t)
	six := []int{0, 1, 2, 3, 2, 4, 5, 2}
	each := []int{0, 1, 2, 3, 4, 5, 6, 7}
	back, forth := message.Place{Round: 0, From: 1, To: 0}, message.Place{Round: 0, From: 0, To: 1}
	want(t, "symbols", all(message.Symbols(s, six, back)), "[[-1 0 -1 -1 0 -1] 0]")
	want(t, "symbols", all(message.Symbols(s, six, forth)), "[[0 -1 -1 -1 -1 -1] 0]")
	want(t, "symbols", all(message.Symbols(s, each, back)), "[[-1 0 -1 -1 -1 1 -1 -1] 0]")
	want(t, "count", all(message.Count(s, six, back)), "[1 0]")
	want(t, "count", all(message.Count(s, each, back)), "[2 0]")
	want(t, "bits", all(message.Bits(s, six)), "[0 0]")
	want(t, "bits", all(message.Bits(s, each)), "[1 0]")
	want(t, "bits", all(message.Bits(systemOf(t, consensusOf(t, 0, 1), adversaryOf(t, 2, "0 1"), 0), []int{0, 1, 2})), "[0 0]")
	three := systemOf(t, crashSystem(t, 0).Problem.Task, adversaryOf(t, 3, "012 012 012"), 2)
	own := make([]int, len(three.Table.Views))
	for i := range own {
		own[i] = i
	}
	want(t, "bits", all(message.Bits(three, own)), "[24 0]")
	for _, x := range []struct {
		place message.Place
		e     api.Errno
	}{{message.Place{Round: 1, From: 9}, api.ErrRange}, {message.Place{Round: -1, From: 9}, api.ErrRange}, {message.Place{Round: 0, From: 2, To: 2}, api.ErrNone}, {message.Place{Round: 0, From: 2, To: 0}, api.ErrNone}, {message.Place{Round: 0, From: -1, To: 0}, api.ErrNone}, {message.Place{Round: 0, From: 0, To: 2}, api.ErrNone}, {message.Place{Round: 0, From: 0, To: -1}, api.ErrNone}, {message.Place{Round: 0, From: 1, To: 1}, api.ErrUse}} {
		want(t, "place", all(message.Symbols(s, six, x.place)), all([]int{}, x.e))
		want(t, "place", all(message.Count(s, six, x.place)), all(0, x.e))
		want(t, "place", message.Verify(s, six, x.place, nil), x.e)
	}
	for _, x := range []struct {
		classes []int
		e       api.Errno
	}{{[]int{1}, api.ErrOrder}, {[]int{0}, api.ErrShape}, {[]int{0, 1, 2, 3, 2, 1, 4, 2}, api.ErrProof}} {
		want(t, "classes", all(message.Symbols(s, x.classes, message.Place{Round: 9})), all([]int{}, x.e))
		want(t, "classes", all(message.Count(s, x.classes, message.Place{Round: 9})), all(0, x.e))
		want(t, "classes", all(message.Bits(s, x.classes)), all(0, x.e))
		want(t, "classes", message.Verify(s, x.classes, message.Place{Round: 9}, nil), x.e)
	}
	for _, x := range badSystems(t) {
		want(t, "symbols", all(message.Symbols(x.s, []int{1}, back)), all([]int{}, x.e))
		want(t, "count", all(message.Count(x.s, []int{1}, back)), all(0, x.e))
		want(t, "bits", all(message.Bits(x.s, []int{1})), all(0, x.e))
		want(t, "verify", message.Verify(x.s, []int{1}, back, nil), x.e)
	}
}

// P53.2: Verify.
func TestMessageVerify(t *testing.T) {
	s := exampleSystem(t)
	each := []int{0, 1, 2, 3, 4, 5, 6, 7}
	back := message.Place{Round: 0, From: 1, To: 0}
	for i, x := range []struct {
		symbols []int
		e       api.Errno
	}{
		{[]int{-1, 0, -1, -1, -1, 1, -1, -1}, api.OK}, {[]int{-1, 7, -1, -1, -1, 3, -1, -1}, api.OK}, {[]int{-1, api.MaxNumber, -1, -1, -1, 0, -1, -1}, api.OK}, {[]int{-1, 1, -1, -1, -1, 1, -1, -1}, api.ErrProof}, {[]int{0}, api.ErrForm}, {[]int{0, 0, -1, -1, -1, 1, -1, -1}, api.ErrRange},
		{[]int{-1, -1, -1, -1, -1, 1, -1, -1}, api.ErrRange}, {[]int{-1, api.MaxNumber + 1, -1, -1, -1, 1, -1, -1}, api.ErrRange},
	} {
		want(t, string(rune('a'+i)), message.Verify(s, each, back, x.symbols), x.e)
	}
}

// P53.3: consequences.
func TestMessageLaws(t *testing.T) {
	for _, s := range []api.System{lossySystem(t), systemOf(t, consensusOf(t, 0, 1, 2, 3), adversaryOf(t, 2, "0 01, 01 01 > 1", "01 1, 01 01"), 2), crashSystem(t, 1)} {
		classes, _ := quotient.Classes(s, nobody(s))
		own := make([]int, len(classes))
		for i := range own {
			own[i] = i
		}
		for _, l := range [][]int{classes, own} {
			n := s.Table.N
			number, _ := partition.Count(l)
			next := map[string]int{}
			of := map[message.Place][]int{}
			for k := range s.Problem.Rounds {
				for from := range n {
					for to := range n {
						if from == to {
							continue
						}
						x := message.Place{Round: k, From: from, To: to}
						symbols, e := message.Symbols(s, l, x)
						good(t, "symbols", e)
						of[x] = symbols
						want(t, "enough", message.Verify(s, l, x, symbols), api.OK)
						count, _ := message.Count(s, l, x)
						want(t, "few", count >= 1 && count <= number, true)
						if count > 1 {
							fewer := append([]int{}, symbols...)
							for i := range fewer {
								fewer[i] = min(fewer[i], count-2)
							}
							want(t, "needed", message.Verify(s, l, x, fewer), api.ErrProof)
						}
					}
				}
			}
			for i, v := range s.Table.Views {
				if v.Round == 0 {
					continue
				}
				key := string(rune('0'+v.Round)) + string(rune('0'+v.Proc))
				for q, h := range v.Heard[:n] {
					x := -1
					if h >= 0 && q == v.Proc {
						x = l[h]
					} else if h >= 0 {
						x = of[message.Place{Round: v.Round - 1, From: q, To: v.Proc}][l[h]]
					}
					key += "," + string(rune('A'+x))
				}
				if class, ok := next[key]; ok {
					want(t, "determined", l[i], class)
				}
				next[key] = l[i]
			}
		}
	}
}
