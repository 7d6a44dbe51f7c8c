package tests

import (
	"fmt"
	"slices"
	"testing"

	"roundtable/api"
)

// want reports an error if a value does not look like the expected one. (Nil and empty lists look the same.)
func want(t *testing.T, what string, got, wanted any) {
	t.Helper()
	g, w := fmt.Sprint(got), fmt.Sprint(wanted)
	if g != w {
		t.Errorf("%s: got %s, want %s", what, short(g), short(w))
	}
}

// all makes one value of several results.
func all(l ...any) []any { return l }

func short(s string) string {
	if len(s) > 400 {
		return s[:400] + ".."
	}
	return s
}

// good fails a test if there is an error.
func good(t *testing.T, what string, e api.Errno) {
	t.Helper()
	if e != api.OK {
		t.Fatalf("%s: error %d", what, e)
	}
}

// source is a small generator of numbers that are the same in each run.
type source uint64

func (s *source) below(n int) int {
	*s = *s*6364136223846793005 + 1442695040888963407
	return int(uint64(*s)>>33) % n
}

func containsVector(l [][]int, v []int) bool {
	return slices.ContainsFunc(l, func(w []int) bool { return slices.Equal(v, w) })
}
