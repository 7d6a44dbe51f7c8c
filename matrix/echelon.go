package matrix

import (
	"math/bits"

	"roundtable/api"
)

// bitset is a vector with a bit for each position.
type bitset []uint64

func bitsetOf(length int, l []int) bitset {
	s := make(bitset, (length+63)/64)
	s.toggle(l)
	return s
}

// toggle adds a vector that lists its positions.
func (s bitset) toggle(l []int) {
	for _, x := range l {
		s[x/64] ^= 1 << (x % 64)
	}
}

func (s bitset) add(t bitset) {
	for i, word := range t {
		s[i] ^= word
	}
}

func (s bitset) has(x int) bool { return s[x/64]>>(x%64)&1 != 0 }

// first returns the first position with a 1, or -1.
func (s bitset) first() int {
	for i, word := range s {
		if word != 0 {
			return i*64 + bits.TrailingZeros64(word)
		}
	}
	return -1
}

func (s bitset) empty() bool { return s.first() < 0 }

func (s bitset) list() []int {
	var l []int
	for i, word := range s {
		for ; word != 0; word &= word - 1 {
			l = append(l, i*64+bits.TrailingZeros64(word))
		}
	}
	return l
}

// leader is a row with its leading column; sum tells of which rows of the matrix it is the sum.
type leader struct {
	column   int
	row, sum bitset
}

func (l leader) add(other leader) {
	l.row.add(other.row)
	l.sum.add(other.sum)
}

// echelon contains rows with different leading columns, and the sums of rows that are empty.
type echelon struct {
	leading []leader
	empty   []bitset
}

// forward makes the leading columns of all rows different. Without sums the part of a row that tells them stays empty.
func forward(m api.Matrix, sums bool) echelon {
	var form echelon
	at := map[int]leader{}
	reduce := func(l leader) leader {
		for l.column = l.row.first(); l.column >= 0; l.column = l.row.first() {
			other, ok := at[l.column]
			if !ok {
				break
			}
			l.add(other)
		}
		return l
	}
	height := 0
	if sums {
		height = len(m.Rows)
	}
	for i := range len(m.Rows) {
		l := leader{row: bitsetOf(m.Cols, m.Rows[i]), sum: bitsetOf(height, nil)}
		if sums {
			l.sum.toggle([]int{i})
		}
		if l = reduce(l); l.column < 0 {
			form.empty = append(form.empty, l.sum)
			continue
		}
		at[l.column] = l
		form.leading = append(form.leading, l)
	}
	return form
}
