package clauses

import (
	"container/heap"

	"roundtable/api"
)

// queue is a heap of clauses that may be false, or have one open literal, the first one in front.
type queue []int

func (q queue) Len() int           { return len(q) }
func (q queue) Less(i, k int) bool { return q[i] < q[k] }
func (q queue) Swap(i, k int)      { q[i], q[k] = q[k], q[i] }
func (q *queue) Push(x any)        { *q = append(*q, x.(int)) }
func (q *queue) Pop() any {
	x := (*q)[len(*q)-1]
	*q = (*q)[:len(*q)-1]
	return x
}

// state is a state of unit propagation: the number of open literals of each clause, whether it is true, and the clauses with each literal.
type state struct {
	list   [][]int
	values map[int]int
	open   []int
	true   []bool
	having map[int][]int
	next   queue
}

func newState(c api.Clauses) *state {
	s := &state{list: c.List, values: map[int]int{}, open: make([]int, len(c.List)), true: make([]bool, len(c.List)), having: map[int][]int{}}
	for i, clause := range c.List {
		s.open[i] = len(clause)
		for _, x := range clause {
			s.having[x] = append(s.having[x], i)
		}
		if len(clause) <= 1 {
			heap.Push(&s.next, i)
		}
	}
	return s
}

// assign makes a literal true.
func (s *state) assign(x int) {
	s.values[variable(x)] = x
	for _, i := range s.having[x] {
		s.true[i] = true
	}
	for _, i := range s.having[-x] {
		if s.open[i]--; s.open[i] <= 1 {
			heap.Push(&s.next, i)
		}
	}
}

// take returns the first clause that is false or has one open literal; false if there is none.
func (s *state) take() (int, bool) {
	for s.next.Len() > 0 {
		i := heap.Pop(&s.next).(int)
		if !s.true[i] {
			return i, true
		}
	}
	return 0, false
}

// Propagate returns all literals that unit propagation assigns, with their reasons, and the clause of the conflict, or -1.
func Propagate(c api.Clauses, assumed []int) ([]int, []int, int, api.Errno) {
	if _, e := assignment(c, assumed); e != api.OK {
		return nil, nil, 0, e
	}
	s := newState(c)
	var trail, reasons []int
	add := func(x, reason int) {
		trail, reasons = append(trail, x), append(reasons, reason)
		s.assign(x)
	}
	for _, x := range assumed {
		add(x, -1)
	}
	for {
		i, ok := s.take()
		if !ok {
			return trail, reasons, -1, api.OK
		}
		if s.open[i] == 0 {
			return trail, reasons, i, api.OK
		}
		for _, x := range s.list[i] {
			if s.values[variable(x)] == 0 {
				add(x, i)
				break
			}
		}
	}
}
