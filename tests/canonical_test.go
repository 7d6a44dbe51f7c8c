package tests

import (
	"testing"

	"roundtable/adversary"
	"roundtable/api"
	"roundtable/canonical"
	"roundtable/combine"
	"roundtable/failure"
	"roundtable/inclusion"
	"roundtable/round"
)

// P19.1: Classes, Canonical, Is and Equal.
func TestCanonicalForms(t *testing.T) {
	a := adversaryOf(t, 2, "0 1 > 2, 01 01 > 1", "0 1 > 1, 01 01 > 2", "01 01 > 1")
	c := adversaryOf(t, 2, "0 1 > 1, 01 01 > 2", "01 01 > 2", "0 1 > 2, 01 01 > 1")
	split := adversaryOf(t, 2, "0 1 > 2, 01 01 > 1", "0 1 > 1, 01 01 > 2", "01 01 > 3", "0 1 > 1, 01 01 > 2")
	want(t, "classes", all(canonical.Classes(a)), "[[0 1 2] 0]")
	want(t, "classes", all(canonical.Classes(split)), "[[0 1 2 1] 0]")
	want(t, "canonical", sketchAdversary(canonical.Canonical(a)), sketchAdversary(c, api.OK))
	want(t, "canonical", sketchAdversary(canonical.Canonical(split)), sketchAdversary(c, api.OK))
	want(t, "unreachable", sketchAdversary(canonical.Canonical(adversaryOf(t, 2, "0 1", "01 01 > 0"))), "0 1 > 0")
	want(t, "is", all(canonical.Is(a)), "[false 0]")
	want(t, "is", all(canonical.Is(c)), "[true 0]")
	want(t, "is", all(canonical.Is(split)), "[false 0]")
	want(t, "equal", all(canonical.Equal(a, split)), "[true 0]")
	want(t, "equal", all(canonical.Equal(a, adversaryOf(t, 2, "0 1, 01 01"))), "[false 0]")
	want(t, "equal", all(canonical.Equal(a, adversaryOf(t, 3, "0 1 2"))), "[false 22]")
	for _, x := range badAdversaries(t) {
		want(t, "classes", all(canonical.Classes(x.a)), all([]int{}, x.e))
		want(t, "canonical", all(canonical.Canonical(x.a)), all(api.Adversary{}, x.e))
		want(t, "is", all(canonical.Is(x.a)), all(false, x.e))
		want(t, "equal", all(canonical.Equal(a, x.a)), all(false, x.e))
		want(t, "equal", all(canonical.Equal(x.a, api.Adversary{})), all(false, x.e))
		want(t, "distinguish", all(canonical.Distinguish(x.a, -1, 0)), all([]int{}, false, x.e))
		want(t, "prove", all(canonical.Prove(x.a)), all([]int{}, x.e))
		want(t, "verify", canonical.Verify(x.a, nil), x.e)
	}
}

// wordTexts writes words.
func wordTexts(n int, l [][]api.Round) []string {
	texts := make([]string, len(l))
	for i, w := range l {
		texts[i], _ = round.Format(n, w)
	}
	return texts
}

// P19.2: Distinguish, Prove and Verify.
func TestCanonicalProofs(t *testing.T) {
	c := adversaryOf(t, 2, "0 1 > 1, 01 01 > 2", "01 01 > 2", "0 1 > 2, 01 01 > 1")
	split := adversaryOf(t, 2, "0 1 > 2, 01 01 > 1", "0 1 > 1, 01 01 > 2", "01 01 > 3", "0 1 > 1, 01 01 > 2")
	word, ok, e := canonical.Distinguish(c, 2, 0)
	want(t, "distinguish", all(wordTexts(2, [][]api.Round{word}), ok, e), "[[0 1 / 0 1] true 0]")
	want(t, "distinguish", all(canonical.Distinguish(split, 3, 1)), "[[] false 0]")
	want(t, "distinguish", all(canonical.Distinguish(c, 0, 0)), "[[] false 0]")
	want(t, "distinguish", all(canonical.Distinguish(c, 0, 3)), "[[] false 6]")
	proof, e := canonical.Prove(c)
	want(t, "prove", all(len(proof), e), "[5 0]")
	texts := wordTexts(2, proof)
	for i, text := range []string{"0 1", "01 01", "0 1", "0 1 / 0 1", "0 1"} {
		want(t, "prove", texts[i], text)
	}
	want(t, "prove", all(canonical.Prove(split)), "[[] 3]")
	want(t, "prove", all(canonical.Prove(adversaryOf(t, 2, "0 1", "01 01"))), "[[] 3]")
	want(t, "verify", canonical.Verify(c, proof), api.OK)
	want(t, "verify", canonical.Verify(c, proof[:4]), api.ErrShape)
	want(t, "verify", canonical.Verify(c, [][]api.Round{proof[1], proof[0], proof[2], proof[3], proof[4]}), api.ErrProof)
	want(t, "verify", canonical.Verify(c, [][]api.Round{proof[0], proof[1], proof[2], proof[2], proof[4]}), api.ErrProof)
	want(t, "verify", canonical.Verify(c, [][]api.Round{proof[0], proof[1], proof[2], {{Faulty: -1}}, proof[4]}), api.ErrProof)
	line := api.Adversary{N: 1}
	for s := range 46 {
		line.States = append(line.States, []api.Move{{Round: wordOf(t, 1, "0")[0], To: min(s+1, 44)}})
	}
	line.States[44] = append(line.States[44], api.Move{Round: wordOf(t, 1, "0 !0")[0], To: 45})
	line.States[45] = []api.Move{{Round: wordOf(t, 1, "0 !0")[0], To: 45}}
	want(t, "limit", all(canonical.Prove(line)), "[[] 17]")
}

// P19.3: consequences.
func TestCanonicalLaws(t *testing.T) {
	crash, _ := failure.Crash(3, 1)
	part, _ := failure.Partition(3, 1)
	snap, _ := failure.Snapshot(3)
	var l []api.Adversary
	for _, a := range []api.Adversary{crash, part, snap} {
		for _, b := range []api.Adversary{crash, part, snap} {
			or, _ := combine.Or(a, b)
			seq, _ := combine.Then(a, 1, b)
			l = append(l, or, seq)
		}
	}
	for _, a := range l {
		c, e := canonical.Canonical(a)
		good(t, "canonical", e)
		want(t, "itself", sketchAdversary(canonical.Canonical(c)), sketchAdversary(c, api.OK))
		want(t, "is", all(canonical.Is(c)), "[true 0]")
		want(t, "words", all(inclusion.Equivalent(a, c)), "[[] true 0]")
		reachable, _ := adversary.Reachable(a)
		classes, _ := canonical.Classes(a)
		different := map[int]bool{}
		for _, s := range reachable {
			different[classes[s]] = true
		}
		want(t, "states", len(c.States), len(different))
		proof, e := canonical.Prove(c)
		good(t, "prove", e)
		want(t, "verify", canonical.Verify(c, proof), api.OK)
		for _, b := range l {
			_, equivalent, _ := inclusion.Equivalent(a, b)
			want(t, "equal", all(canonical.Equal(a, b)), all(equivalent, api.OK))
		}
	}
}
