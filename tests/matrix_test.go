package tests

import (
	"testing"

	"roundtable/api"
	"roundtable/matrix"
)

func exampleMatrix() api.Matrix {
	return api.Matrix{Cols: 4, Rows: [][]int{{0, 1}, {1, 2}, {0, 2}, {3}}}
}

type badMatrix struct {
	m api.Matrix
	e api.Errno
}

func badMatrices() []badMatrix {
	return []badMatrix{
		{api.Matrix{Cols: -1}, api.ErrRange},
		{api.Matrix{Cols: api.MaxSize + 1}, api.ErrRange},
		{api.Matrix{Cols: 1, Rows: make([][]int, api.MaxSize+1)}, api.ErrMany},
		{api.Matrix{Cols: 3, Rows: [][]int{{0}, {1, 3}}}, api.ErrRange},
		{api.Matrix{Cols: 3, Rows: [][]int{{1, 1, 9}}}, api.ErrOrder},
		{api.Matrix{Cols: 3, Rows: [][]int{{-1}}}, api.ErrRange},
	}
}

// P5.1: Check, Add, Multiply, Transpose and Apply.
func TestMatrixProducts(t *testing.T) {
	m := exampleMatrix()
	want(t, "transpose", all(matrix.Transpose(m)), "[{4 [[0 2] [0 1] [1 2] [3]]} 0]")
	want(t, "add", all(matrix.Add(m, api.Matrix{Cols: 4, Rows: [][]int{{0, 1}, {2}, {}, {0, 3}}})), "[{4 [[] [1] [0 2] [0]]} 0]")
	want(t, "add", all(matrix.Add(m, api.Matrix{Cols: 4})), "[{0 []} 15]")
	want(t, "add", all(matrix.Add(m, api.Matrix{Cols: 3, Rows: make([][]int, 4)})), "[{0 []} 15]")
	want(t, "multiply", all(matrix.Multiply(m, m)), "[{4 [[0 2] [0 1] [1 2] [3]]} 0]")
	want(t, "multiply", all(matrix.Multiply(api.Matrix{Cols: 2, Rows: [][]int{{0, 1}, {1}, {}}}, api.Matrix{Cols: 5, Rows: [][]int{{0, 4}, {3, 4}}})), "[{5 [[0 3] [3 4] []]} 0]")
	want(t, "multiply", all(matrix.Multiply(m, api.Matrix{Cols: 4})), "[{0 []} 15]")
	want(t, "apply", all(matrix.Apply(m, []int{1, 3})), "[[0 1 3] 0]")
	want(t, "apply", all(matrix.Apply(m, []int{4})), "[[] 2]")
	want(t, "apply", all(matrix.Apply(m, []int{1, 1})), "[[] 14]")
	for _, x := range badMatrices() {
		want(t, "check", matrix.Check(x.m), x.e)
		want(t, "add", all(matrix.Add(m, x.m)), all(api.Matrix{}, x.e))
		want(t, "multiply", all(matrix.Multiply(x.m, m)), all(api.Matrix{}, x.e))
		want(t, "transpose", all(matrix.Transpose(x.m)), all(api.Matrix{}, x.e))
		want(t, "apply", all(matrix.Apply(x.m, []int{-1})), all([]int{}, x.e))
	}
}

// P5.2: Echelon, Rank, Kernel, Solve and Verify.
func TestMatrixSystems(t *testing.T) {
	m := exampleMatrix()
	want(t, "echelon", all(matrix.Echelon(m)), "[{4 [[0 2] [1 2] [3]]} 0]")
	want(t, "rank", all(matrix.Rank(m)), "[3 0]")
	want(t, "kernel", all(matrix.Kernel(m)), "[{4 [[0 1 2]]} 0]")
	want(t, "kernel", all(matrix.Kernel(api.Matrix{Cols: 2})), "[{2 [[0] [1]]} 0]")
	want(t, "solve", all(matrix.Solve(m, []int{0, 1, 3})), "[[1 3] [] true 0]")
	want(t, "solve", all(matrix.Solve(m, []int{0})), "[[] [0 1 2] false 0]")
	want(t, "solve", all(matrix.Solve(m, []int{4})), "[[] [] false 2]")
	want(t, "solve", all(matrix.Solve(m, []int{2, 1})), "[[] [] false 14]")
	want(t, "verify", matrix.Verify(m, []int{0}, []int{0, 1, 2}), api.OK)
	want(t, "verify", matrix.Verify(m, []int{0, 1}, []int{0, 1, 2}), api.ErrProof)
	want(t, "verify", matrix.Verify(m, []int{0}, []int{0, 1}), api.ErrProof)
	want(t, "verify", matrix.Verify(m, []int{9}, []int{1, 1}), api.ErrRange)
	want(t, "verify", matrix.Verify(m, []int{0}, []int{1, 1}), api.ErrOrder)
	for _, x := range badMatrices() {
		want(t, "echelon", all(matrix.Echelon(x.m)), all(api.Matrix{}, x.e))
		want(t, "rank", all(matrix.Rank(x.m)), all(0, x.e))
		want(t, "kernel", all(matrix.Kernel(x.m)), all(api.Matrix{}, x.e))
		want(t, "solve", all(matrix.Solve(x.m, []int{-1})), all([]int{}, []int{}, false, x.e))
		want(t, "verify", matrix.Verify(x.m, []int{-1}, nil), x.e)
	}
}

func randomMatrix(random *source, rows, cols int) api.Matrix {
	m := api.Matrix{Cols: cols, Rows: make([][]int, rows)}
	for i := range m.Rows {
		for c := range cols {
			if random.below(3) == 0 {
				m.Rows[i] = append(m.Rows[i], c)
			}
		}
	}
	return m
}

// P5.3: consequences.
func TestMatrixLaws(t *testing.T) {
	var random source
	for range 200 {
		a, b, c := randomMatrix(&random, 5, 70), randomMatrix(&random, 70, 4), randomMatrix(&random, 70, 4)
		ab, _ := matrix.Multiply(a, b)
		ac, _ := matrix.Multiply(a, c)
		sum, _ := matrix.Add(b, c)
		x, _ := matrix.Multiply(a, sum)
		want(t, "distributive", all(matrix.Add(ab, ac)), all(x, api.OK))
		ta, _ := matrix.Transpose(a)
		tb, _ := matrix.Transpose(b)
		tab, _ := matrix.Transpose(ab)
		want(t, "transpose", all(matrix.Multiply(tb, ta)), all(tab, api.OK))
		m := randomMatrix(&random, 6, 8)
		tm, _ := matrix.Transpose(m)
		r, _ := matrix.Rank(m)
		want(t, "rank", all(matrix.Rank(tm)), all(r, api.OK))
		k, _ := matrix.Kernel(m)
		want(t, "kernel", r+len(k.Rows), 8)
		for _, v := range k.Rows {
			want(t, "nothing", all(matrix.Apply(m, v)), "[[] 0]")
		}
		form, _ := matrix.Echelon(m)
		want(t, "form", all(matrix.Echelon(form)), all(form, api.OK))
		v := randomMatrix(&random, 1, 6).Rows[0]
		s, y, ok, _ := matrix.Solve(m, v)
		if ok {
			want(t, "solution", all(matrix.Apply(m, s)), all(v, api.OK))
			for _, c := range s {
				leading := false
				for _, row := range form.Rows {
					leading = leading || row[0] == c
				}
				want(t, "leading", leading, true)
			}
		} else {
			want(t, "refutation", matrix.Verify(m, v, y), api.OK)
		}
	}
}
