// Package parity finds and verifies lists of faces for which each labeling has an odd number of rainbow faces, level by level, as in the proof of Sperner's lemma.
package parity

import (
	"iter"
	"slices"

	"roundtable/api"
	"roundtable/fresh"
	"roundtable/matrix"
)

// Space contains faces, which are ascending lists of nodes: Faces[k] are all of those with k + 1 nodes, in ascending order. A node may have the labels of a mask. Faces for which Last does not hold are excluded from the last level.
type Space struct {
	Masks []int
	Faces [][][]int
	Last  func(face []int) bool
}

// key is a face that can be found in a map.
type key [api.MaxDim]int

func keyOf(face []int) key {
	var k key
	for i := copy(k[:], face); i < len(k); i++ {
		k[i] = -1
	}
	return k
}

// faces returns the faces with k + 1 nodes.
func (s Space) faces(k int) [][]int {
	if k < len(s.Faces) {
		return s.Faces[k]
	}
	return nil
}

// permitted reports whether all labels of a face are from 0 to k.
func (s Space) permitted(face []int, k int) bool {
	return !slices.ContainsFunc(face, func(i int) bool { return s.Masks[i]>>(k+1) != 0 })
}

// full reports whether a face may have all labels from 0 to the number of its nodes less 1.
func (s Space) full(face []int) bool {
	mask := 0
	for _, i := range face {
		mask |= s.Masks[i]
	}
	all := 1<<len(face) - 1
	return mask&all == all
}

// parts yields the faces with one node less.
func parts(face []int) iter.Seq[[]int] {
	return func(yield func([]int) bool) {
		for i := range face {
			if !yield(slices.Concat(face[:i], face[i+1:])) {
				return
			}
		}
	}
}

// unknowns returns for each level the faces that are permitted in it.
func (s Space) unknowns(d int) [][][]int {
	var levels [][][]int
	for k := range d + 1 {
		var l [][]int
		for _, face := range s.faces(k) {
			if s.permitted(face, k) && (k < d || s.Last == nil || s.Last(face)) {
				l = append(l, face)
			}
		}
		levels = append(levels, l)
	}
	return levels
}

// equations yields the rows of the system for some unknowns, which are numbered level by level.
func (s Space) equations(levels [][][]int) iter.Seq[[]int] {
	return func(yield func([]int) bool) {
		var row []int
		before := map[key]int{}
		for i, face := range levels[0] {
			row = append(row, i)
			before[keyOf(face)] = i
		}
		if !yield(row) {
			return
		}
		next := len(levels[0])
		for k := 1; k < len(levels); k++ {
			numbers := map[key]int{}
			holders := map[key][]int{}
			for _, face := range levels[k] {
				numbers[keyOf(face)] = next
				for part := range parts(face) {
					holders[keyOf(part)] = append(holders[keyOf(part)], next)
				}
				next++
			}
			for _, face := range s.faces(k - 1) {
				if !s.full(face) {
					continue
				}
				row := holders[keyOf(face)]
				if i, ok := before[keyOf(face)]; ok {
					row = append([]int{i}, row...)
				}
				if !yield(row) {
					return
				}
			}
			before = numbers
		}
	}
}

// Solve returns the levels of the solution for the labels 0 to d, and whether there is one; ErrLimit if the system is too large.
func (s Space) Solve(d int) ([][][]int, bool, api.Errno) {
	levels := s.unknowns(d)
	m := api.Matrix{}
	for _, l := range levels {
		m.Cols += len(l)
	}
	if m.Cols > api.MaxSize {
		return nil, false, api.ErrLimit
	}
	for row := range s.equations(levels) {
		if len(m.Rows) == api.MaxSize {
			return nil, false, api.ErrLimit
		}
		m.Rows = append(m.Rows, row)
	}
	x, _, ok, e := matrix.Solve(m, []int{0})
	if e != api.OK || !ok {
		return nil, false, e
	}
	solution := make([][][]int, d+1)
	base, k := 0, 0
	for _, i := range x {
		for i-base >= len(levels[k]) {
			base += len(levels[k])
			k++
		}
		solution[k] = append(solution[k], fresh.List(levels[k][i-base]))
	}
	return solution, true, api.OK
}

// Right reports whether levels of faces are a solution.
func (s Space) Right(levels [][][]int) bool {
	d := len(levels) - 1
	for k, l := range levels {
		for _, face := range l {
			if !s.permitted(face, k) || k == d && s.Last != nil && !s.Last(face) {
				return false
			}
		}
	}
	for k := 1; k < len(levels); k++ {
		odd := map[key]bool{}
		for _, face := range levels[k] {
			for part := range parts(face) {
				odd[keyOf(part)] = !odd[keyOf(part)]
			}
		}
		below := map[key]bool{}
		for _, face := range levels[k-1] {
			below[keyOf(face)] = true
		}
		for _, face := range s.faces(k - 1) {
			if s.full(face) && odd[keyOf(face)] != below[keyOf(face)] {
				return false
			}
		}
	}
	return len(levels[0])%2 == 1
}
