package tests

import (
	"slices"
	"testing"

	"roundtable/api"
	"roundtable/partition"
)

// P4.1: Check, Of, Classes, Count and Same.
func TestPartitionClasses(t *testing.T) {
	want(t, "of", all(partition.Of([]int{7, 3, 7, 5})), "[[0 1 0 2] 0]")
	want(t, "of", all(partition.Of(nil)), "[[] 0]")
	want(t, "of", all(partition.Of(make([]int, api.MaxSteps+1))), "[[] 5]")
	want(t, "check", partition.Check(make([]int, api.MaxSteps)), api.OK)
	want(t, "classes", all(partition.Classes([]int{0, 1, 0, 2})), "[[[0 2] [1] [3]] 0]")
	want(t, "count", all(partition.Count([]int{0, 1, 0, 2})), "[3 0]")
	want(t, "count", all(partition.Count(nil)), "[0 0]")
	want(t, "same", all(partition.Same([]int{0, 1, 0}, 2, 0)), "[true 0]")
	want(t, "same", all(partition.Same([]int{0, 1, 0}, 1, 0)), "[false 0]")
	want(t, "same", all(partition.Same([]int{0, 1, 0}, 0, 2)), "[true 0]")
	want(t, "same", all(partition.Same([]int{0, 1, 0}, -1, 0)), "[false 2]")
	want(t, "same", all(partition.Same([]int{0, 1, 0}, 0, 3)), "[false 2]")
	want(t, "same", all(partition.Same([]int{0, 1, 0}, 3, 0)), "[false 2]")
	want(t, "same", all(partition.Same([]int{0, 1, 0}, 0, -1)), "[false 2]")
	for _, x := range badPartitions() {
		want(t, "check", partition.Check(x.l), x.e)
		want(t, "classes", all(partition.Classes(x.l)), all([]int{}, x.e))
		want(t, "count", all(partition.Count(x.l)), all(0, x.e))
		want(t, "same", all(partition.Same(x.l, -1, 0)), all(false, x.e))
	}
}

type badPartition struct {
	l []int
	e api.Errno
}

func badPartitions() []badPartition {
	return []badPartition{{[]int{1}, api.ErrOrder}, {[]int{0, 2, -1}, api.ErrOrder}, {[]int{0, -1, 5}, api.ErrRange}, {[]int{0, 1, 3}, api.ErrOrder}, {make([]int, api.MaxSteps+1), api.ErrMany}}
}

// P4.2: Finer, Meet, Join and Refine.
func TestPartitionLattice(t *testing.T) {
	a, b := []int{0, 0, 1, 1}, []int{0, 1, 1, 1}
	want(t, "meet", all(partition.Meet(a, b)), "[[0 1 2 2] 0]")
	want(t, "join", all(partition.Join(a, b)), "[[0 0 0 0] 0]")
	want(t, "join", all(partition.Join([]int{0, 1, 2, 1}, []int{0, 1, 0, 2})), "[[0 1 0 1] 0]")
	want(t, "finer", all(partition.Finer([]int{0, 1, 2, 2}, a)), "[true 0]")
	want(t, "finer", all(partition.Finer(a, b)), "[false 0]")
	want(t, "refine", all(partition.Refine(a, []int{9, 9, 9, -1})), "[[0 0 1 2] 0]")
	want(t, "refine", all(partition.Refine(a, nil)), "[[] 15]")
	want(t, "shape", all(partition.Finer(a, nil)), "[false 15]")
	want(t, "shape", all(partition.Meet(a, nil)), "[[] 15]")
	want(t, "shape", all(partition.Join(nil, a)), "[[] 15]")
	for _, x := range badPartitions() {
		want(t, "finer", all(partition.Finer(a, x.l)), all(false, x.e))
		want(t, "meet", all(partition.Meet(x.l, []int{5})), all([]int{}, x.e))
		want(t, "join", all(partition.Join(a, x.l)), all([]int{}, x.e))
		want(t, "refine", all(partition.Refine(x.l, a)), all([]int{}, x.e))
	}
}

// P4.3: consequences.
func TestPartitionLaws(t *testing.T) {
	var random source
	for range 300 {
		var l [3][]int
		for i := range l {
			keys := make([]int, 7)
			for j := range keys {
				keys[j] = random.below(4)
			}
			l[i], _ = partition.Of(keys)
			want(t, "own", all(partition.Of(l[i])), all(l[i], api.OK))
		}
		a, b, c := l[0], l[1], l[2]
		m, _ := partition.Meet(a, b)
		j, _ := partition.Join(a, b)
		want(t, "commutative", all(partition.Meet(b, a)), all(m, api.OK))
		want(t, "commutative", all(partition.Join(b, a)), all(j, api.OK))
		want(t, "absorb", all(partition.Join(a, m)), all(a, api.OK))
		want(t, "absorb", all(partition.Meet(a, j)), all(a, api.OK))
		bc, _ := partition.Join(b, c)
		x, _ := partition.Join(a, bc)
		want(t, "associative", all(partition.Join(j, c)), all(x, api.OK))
		finer, _ := partition.Finer(a, b)
		want(t, "finer", finer, slices.Equal(m, a))
		want(t, "finer", finer, slices.Equal(j, b))
		n, _ := partition.Count(m)
		k, _ := partition.Count(a)
		want(t, "more", n >= k, true)
	}
}
