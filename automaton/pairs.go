package automaton

import (
	"iter"
	"slices"

	"roundtable/api"
	"roundtable/round"
)

// None stands for the state of an adversary that does not permit a word.
const None = -1

// Merged yields the rounds of two lists of moves, in ascending order, with the states to which they lead, or None.
func Merged(l, m []api.Move) iter.Seq2[api.Round, [2]int] {
	return func(yield func(api.Round, [2]int) bool) {
		for len(l) > 0 || len(m) > 0 {
			c := 0
			switch {
			case len(m) == 0:
				c = -1
			case len(l) == 0:
				c = 1
			default:
				c = round.Compare(l[0].Round, m[0].Round)
			}
			to := [2]int{None, None}
			var r api.Round
			if c <= 0 {
				r, to[0], l = l[0].Round, l[0].To, l[1:]
			}
			if c >= 0 {
				r, to[1], m = m[0].Round, m[0].To, m[1:]
			}
			if !yield(r, to) {
				return
			}
		}
	}
}

// node is a pair of states that some word leads to, with the node before, and the round from there.
type node struct {
	at     [2]int
	before int
	letter api.Round
}

// Differ searches for the first word, from two states of two adversaries, whose beginnings lead to states of both, and whose last round leads to states for which a function says that they differ (None, where it is not permitted). Without such a word it returns all pairs of states that common words lead to.
func Differ(x, y api.Adversary, first [2]int, differ func(to [2]int) bool) ([]api.Round, [][2]int, bool) {
	found := map[[2]int]bool{first: true}
	nodes := []node{{at: first, before: None}}
	for i := 0; i < len(nodes); i++ {
		at := nodes[i].at
		for r, to := range Merged(x.States[at[0]], y.States[at[1]]) {
			if differ(to) {
				return append(path(nodes, i), r), nil, true
			}
			if to[0] != None && to[1] != None && !found[to] {
				found[to] = true
				nodes = append(nodes, node{to, i, r})
			}
		}
	}
	var pairs [][2]int
	for _, n := range nodes {
		pairs = append(pairs, n.at)
	}
	return nil, pairs, false
}

// path returns the word that leads to a node.
func path(nodes []node, i int) []api.Round {
	var word []api.Round
	for ; nodes[i].before != None; i = nodes[i].before {
		word = append(word, nodes[i].letter)
	}
	slices.Reverse(word)
	return word
}
