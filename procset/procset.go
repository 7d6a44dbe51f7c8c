// Package procset implements layer 1: sets of processes.
package procset

import (
	"iter"
	"math/bits"
	"strconv"
	"strings"

	"roundtable/api"
)

func checkN(n int) api.Errno {
	if n < 1 || n > api.MaxProcs {
		return api.ErrArg
	}
	return api.OK
}

// Check returns OK for a set of n processes.
func Check(n, set int) api.Errno {
	if e := checkN(n); e != api.OK {
		return e
	}
	if set < 0 || set >= 1<<n {
		return api.ErrRange
	}
	return api.OK
}

// All returns the set of all n processes.
func All(n int) (int, api.Errno) {
	if e := checkN(n); e != api.OK {
		return 0, e
	}
	return 1<<n - 1, api.OK
}

// elements yields the elements of a set in ascending order.
func elements(set int) iter.Seq[int] {
	return func(yield func(int) bool) {
		for rest := set; rest != 0; rest &= rest - 1 {
			if !yield(bits.TrailingZeros(uint(rest))) {
				return
			}
		}
	}
}

// subsets yields the subsets of a set in ascending order: counting up in the positions of the set alone.
func subsets(set int) iter.Seq[int] {
	return func(yield func(int) bool) {
		for sub := 0; yield(sub) && sub != set; {
			sub = (sub - set) & set
		}
	}
}

// collect lists the values of a sequence that are kept.
func collect[T any](s iter.Seq[T], keep func(T) bool) []T {
	var l []T
	for x := range s {
		if keep(x) {
			l = append(l, x)
		}
	}
	return l
}

func always(int) bool { return true }

func size(set int) int { return bits.OnesCount(uint(set)) }

// Members returns the elements of a set in ascending order.
func Members(n, set int) ([]int, api.Errno) {
	if e := Check(n, set); e != api.OK {
		return nil, e
	}
	return collect(elements(set), always), api.OK
}

// Of returns the set of the elements of a list.
func Of(n int, l []int) (int, api.Errno) {
	if e := checkN(n); e != api.OK {
		return 0, e
	}
	set := 0
	for _, p := range l {
		if p < 0 || p >= n {
			return 0, api.ErrRange
		}
		if set&(1<<p) != 0 {
			return 0, api.ErrTwice
		}
		set |= 1 << p
	}
	return set, api.OK
}

// Size returns the number of elements of a set.
func Size(n, set int) (int, api.Errno) {
	if e := Check(n, set); e != api.OK {
		return 0, e
	}
	return size(set), api.OK
}

// Least returns the least element of a set.
func Least(n, set int) (int, api.Errno) {
	if e := Check(n, set); e != api.OK {
		return 0, e
	}
	for p := range elements(set) {
		return p, api.OK
	}
	return 0, api.ErrEmpty
}

// Subsets returns all subsets of a set in ascending order.
func Subsets(n, set int) ([]int, api.Errno) {
	if e := Check(n, set); e != api.OK {
		return nil, e
	}
	return collect(subsets(set), always), api.OK
}

// Choose returns the subsets with k elements in ascending order.
func Choose(n, set, k int) ([]int, api.Errno) {
	if e := Check(n, set); e != api.OK {
		return nil, e
	}
	if k < 0 || k > size(set) {
		return nil, api.ErrRange
	}
	return collect(subsets(set), func(sub int) bool { return size(sub) == k }), api.OK
}

// Format returns the text of a set.
func Format(n, set int) (string, api.Errno) {
	if e := Check(n, set); e != api.OK {
		return "", e
	}
	var words []string
	for p := range elements(set) {
		words = append(words, strconv.Itoa(p))
	}
	return "{" + strings.Join(words, ",") + "}", api.OK
}

// Parse returns the set with a text.
func Parse(n int, s string) (int, api.Errno) {
	if e := checkN(n); e != api.OK {
		return 0, e
	}
	if len(s) > api.MaxName {
		return 0, api.ErrLong
	}
	l, ok := digits(s)
	if !ok {
		return 0, api.ErrSyntax
	}
	set, e := Of(n, l)
	if e != api.OK {
		return 0, e
	}
	for i := 1; i < len(l); i++ {
		if l[i] < l[i-1] {
			return 0, api.ErrOrder
		}
	}
	return set, api.OK
}

// digits reads single digits between braces, separated by commas.
func digits(s string) ([]int, bool) {
	if len(s) < 2 || s[0] != '{' || s[len(s)-1] != '}' {
		return nil, false
	}
	inner := s[1 : len(s)-1]
	if inner == "" {
		return nil, true
	}
	var l []int
	for _, word := range strings.Split(inner, ",") {
		if len(word) != 1 || word[0] < '0' || word[0] > '9' {
			return nil, false
		}
		l = append(l, int(word[0]-'0'))
	}
	return l, true
}
