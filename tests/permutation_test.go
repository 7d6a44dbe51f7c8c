package tests

import (
	"testing"

	"roundtable/api"
	"roundtable/permutation"
)

// P2.1: Check, Identity, Compose, Inverse, Order, Odd and All.
func TestPermutationBasics(t *testing.T) {
	a, b := []int{1, 2, 0, 3}, []int{1, 0, 3, 2}
	want(t, "compose", all(permutation.Compose(a, b)), "[[2 1 3 0] 0]")
	want(t, "compose", all(permutation.Compose(b, a)), "[[0 3 1 2] 0]")
	want(t, "compose", all(permutation.Compose(a, []int{0})), "[[] 22]")
	want(t, "compose", all(permutation.Compose([]int{1, 1}, []int{5})), "[[] 7]")
	want(t, "inverse", all(permutation.Inverse(a)), "[[2 0 1 3] 0]")
	want(t, "order", all(permutation.Order(a)), "[3 0]")
	want(t, "order", all(permutation.Order(b)), "[2 0]")
	want(t, "order", all(permutation.Order([]int{1, 2, 0, 4, 3})), "[6 0]")
	want(t, "odd", all(permutation.Odd(a)), "[false 0]")
	want(t, "odd", all(permutation.Odd([]int{1, 0, 2})), "[true 0]")
	want(t, "identity", all(permutation.Identity(3)), "[[0 1 2] 0]")
	want(t, "identity", all(permutation.Identity(6)), "[[] 2]")
	want(t, "all", all(permutation.All(2)), "[[[0 1] [1 0]] 0]")
	want(t, "all", all(permutation.All(0)), "[[] 2]")
	for _, x := range []struct {
		a []int
		e api.Errno
	}{{nil, api.ErrRange}, {[]int{0, 1, 2, 3, 4, 5}, api.ErrRange}, {[]int{0, 0, 9}, api.ErrTwice}, {[]int{0, 9, 0}, api.ErrRange}, {[]int{-1}, api.ErrRange}, {[]int{0, 2}, api.ErrRange}, {[]int{1}, api.ErrRange}} {
		want(t, "check", permutation.Check(x.a), x.e)
		want(t, "inverse", all(permutation.Inverse(x.a)), all([]int{}, x.e))
		want(t, "order", all(permutation.Order(x.a)), all(0, x.e))
		want(t, "odd", all(permutation.Odd(x.a)), all(false, x.e))
	}
}

// P2.2: Set, Vector, Generate, Format and Parse.
func TestPermutationActions(t *testing.T) {
	a := []int{1, 2, 0, 3}
	want(t, "set", all(permutation.Set(a, 9)), "[10 0]")
	want(t, "set", all(permutation.Set(a, 16)), "[0 2]")
	want(t, "vector", all(permutation.Vector(a, []int{5, 6, 7, 8})), "[[7 5 6 8] 0]")
	want(t, "vector", all(permutation.Vector(a, []int{5, 6, 7})), "[[] 15]")
	want(t, "generate", all(permutation.Generate(3, [][]int{{1, 2, 0}})), "[[[0 1 2] [1 2 0] [2 0 1]] 0]")
	want(t, "generate", all(permutation.Generate(3, nil)), "[[[0 1 2]] 0]")
	want(t, "generate", all(permutation.Generate(3, [][]int{{1, 0}, {9}})), "[[] 22]")
	want(t, "generate", all(permutation.Generate(3, [][]int{{9}, {1, 0}})), "[[] 2]")
	want(t, "generate", all(permutation.Generate(0, make([][]int, 2000))), "[[] 2]")
	want(t, "generate", all(permutation.Generate(1, make([][]int, 2000))), "[[] 5]")
	want(t, "format", all(permutation.Format(a)), "[(0 1 2) 0]")
	want(t, "format", all(permutation.Format([]int{1, 0, 3, 2})), "[(0 1)(2 3) 0]")
	want(t, "format", all(permutation.Format([]int{0, 1})), "[() 0]")
	want(t, "parse", all(permutation.Parse(4, "(0 1)(2 3)")), "[[1 0 3 2] 0]")
	want(t, "parse", all(permutation.Parse(4, "(2 3)(0 1)")), "[[] 4]")
	want(t, "parse", all(permutation.Parse(4, "(1 0)")), "[[] 4]")
	want(t, "parse", all(permutation.Parse(4, "(0 1) (2 3) (0 1) (2 3) ()")), "[[] 13]")
	want(t, "parse", all(permutation.Parse(6, "()")), "[[] 2]")
}

// P2.3: consequences.
func TestPermutationLaws(t *testing.T) {
	l, _ := permutation.All(4)
	one, _ := permutation.Identity(4)
	for _, a := range l {
		inverse, _ := permutation.Inverse(a)
		want(t, "undo", all(permutation.Compose(a, inverse)), all(one, api.OK))
		text, _ := permutation.Format(a)
		want(t, "text", all(permutation.Parse(4, text)), all(a, api.OK))
		x, _ := permutation.Odd(a)
		for _, b := range l {
			c, _ := permutation.Compose(a, b)
			y, _ := permutation.Odd(b)
			want(t, "odd", all(permutation.Odd(c)), all(x != y, api.OK))
			s, _ := permutation.Set(b, 6)
			s, _ = permutation.Set(a, s)
			want(t, "set", all(permutation.Set(c, 6)), all(s, api.OK))
			g, _ := permutation.Generate(4, [][]int{a, b})
			want(t, "size", 24%len(g), 0)
		}
	}
}
