// Package counting yields vectors in lexicographic order.
package counting

import "iter"

// Vectors yields all vectors of n integers from 0 to values - 1. The vector is the same list each time, and is changed behind each step.
func Vectors(n, values int) iter.Seq[[]int] {
	sizes := make([]int, n)
	for i := range sizes {
		sizes[i] = values
	}
	return Choices(sizes)
}

// Choices yields all vectors whose element i is from 0 to sizes[i] - 1. The vector is the same list each time, and is changed behind each step.
func Choices(sizes []int) iter.Seq[[]int] {
	return func(yield func([]int) bool) {
		v := make([]int, len(sizes))
		for _, size := range sizes {
			if size <= 0 {
				return
			}
		}
		for yield(v) && next(v, sizes) {
		}
	}
}

// next counts up from the last element, and reports whether there is a further vector.
func next(v, sizes []int) bool {
	for i := len(v) - 1; i >= 0; i-- {
		v[i]++
		if v[i] < sizes[i] {
			return true
		}
		v[i] = 0
	}
	return false
}
