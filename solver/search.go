package solver

import (
	"container/heap"
	"slices"

	"roundtable/api"
)

const (
	// none is the reason of a literal that is decided, and the level of an open one.
	none = -1
	// few is the number of variables up to which no search is given up.
	few = 20
	// pause is the number of conflicts after which a search begins anew for the first time.
	pause = 100
)

// order is a heap of variables, those that were in many recent conflicts in front.
type order struct {
	vars     []int
	places   []int
	activity []int
}

func (o *order) Len() int { return len(o.vars) }
func (o *order) Less(i, k int) bool {
	a, b := o.activity[o.vars[i]], o.activity[o.vars[k]]
	return a > b || a == b && o.vars[i] < o.vars[k]
}
func (o *order) Swap(i, k int) {
	o.vars[i], o.vars[k] = o.vars[k], o.vars[i]
	o.places[o.vars[i]], o.places[o.vars[k]] = i, k
}
func (o *order) Push(x any) {
	o.places[x.(int)] = len(o.vars)
	o.vars = append(o.vars, x.(int))
}
func (o *order) Pop() any {
	v := o.vars[len(o.vars)-1]
	o.vars = o.vars[:len(o.vars)-1]
	o.places[v] = none
	return v
}

// search looks for a model of clauses, and learns further clauses from its conflicts. For each learned clause it knows the clauses of which it is a resolvent, and the variables that were assigned for good.
type search struct {
	vars    int
	given   int
	clauses [][]int
	parents [][]int
	settled [][]int
	// watched maps literals to the clauses in which they are one of the first two.
	watched map[int][]int
	values  []int
	levels  []int
	reasons []int
	phases  []int
	trail   []int
	begins  []int
	next    int
	order   order
	step    int
}

func variable(x int) int { return max(x, -x) }

// newSearch returns the search for some clauses, and a clause that is false at once, or none.
func newSearch(c api.Clauses, list [][]int) (*search, int) {
	s := &search{vars: c.Vars, watched: map[int][]int{}, step: 1}
	for _, l := range []*[]int{&s.values, &s.levels, &s.reasons, &s.phases, &s.order.places, &s.order.activity} {
		*l = make([]int, c.Vars+1)
	}
	for v := 1; v <= c.Vars; v++ {
		s.phases[v] = v
		heap.Push(&s.order, v)
	}
	conflict := none
	for _, clause := range list {
		i := s.add(clause, nil, nil)
		switch {
		case len(clause) == 0, len(clause) == 1 && s.isFalse(clause[0]):
			conflict = i
		case len(clause) == 1 && !s.isTrue(clause[0]):
			s.assign(clause[0], i)
		}
	}
	s.given = len(s.clauses)
	return s, conflict
}

func (s *search) isTrue(x int) bool  { return s.values[variable(x)] == x }
func (s *search) isFalse(x int) bool { return s.values[variable(x)] == -x }

// level returns the number of decisions.
func (s *search) level() int { return len(s.begins) }

// add adds a copy of a clause, and returns its index.
func (s *search) add(clause, parents, settled []int) int {
	i := len(s.clauses)
	s.clauses = append(s.clauses, slices.Clone(clause))
	s.parents = append(s.parents, parents)
	s.settled = append(s.settled, settled)
	if len(clause) > 1 {
		for _, x := range clause[:2] {
			s.watched[x] = append(s.watched[x], i)
		}
	}
	return i
}

func (s *search) assign(x, reason int) {
	v := variable(x)
	s.values[v], s.levels[v], s.reasons[v], s.phases[v] = x, s.level(), reason, x
	s.trail = append(s.trail, x)
}

// decide assigns a literal one level deeper.
func (s *search) decide(x int) {
	s.begins = append(s.begins, len(s.trail))
	if !s.isTrue(x) {
		s.assign(x, none)
	}
}

// cancel takes back all assignments that are deeper than a level.
func (s *search) cancel(level int) {
	if s.level() <= level {
		return
	}
	for _, x := range s.trail[s.begins[level]:] {
		v := variable(x)
		s.values[v] = 0
		if s.order.places[v] == none {
			heap.Push(&s.order, v)
		}
	}
	s.trail = s.trail[:s.begins[level]]
	s.begins = s.begins[:level]
	s.next = len(s.trail)
}

// propagate assigns literals until nothing follows any more, and returns a clause that is false, or none.
func (s *search) propagate() int {
	for ; s.next < len(s.trail); s.next++ {
		if i := s.visit(-s.trail[s.next]); i != none {
			return i
		}
	}
	return none
}

// visit looks at the clauses that watch a literal which has become false.
func (s *search) visit(x int) int {
	l := s.watched[x]
	kept := l[:0]
	for k, i := range l {
		clause := s.clauses[i]
		if clause[0] == x {
			clause[0], clause[1] = clause[1], clause[0]
		}
		if !s.isTrue(clause[0]) && s.moved(clause, i) {
			continue
		}
		kept = append(kept, i)
		if s.isFalse(clause[0]) {
			s.watched[x] = append(kept, l[k+1:]...)
			return i
		}
		if !s.isTrue(clause[0]) {
			s.assign(clause[0], i)
		}
	}
	s.watched[x] = kept
	return none
}

// moved watches another literal in the place of the second one, if there is one that is not false.
func (s *search) moved(clause []int, i int) bool {
	for k := 2; k < len(clause); k++ {
		if !s.isFalse(clause[k]) {
			clause[1], clause[k] = clause[k], clause[1]
			s.watched[clause[1]] = append(s.watched[clause[1]], i)
			return true
		}
	}
	return false
}

// bump moves a variable to the front.
func (s *search) bump(v int) {
	s.order.activity[v] += s.step
	if s.order.activity[v] > 1<<60 {
		for w := range s.order.activity {
			s.order.activity[w] >>= 50
		}
		s.step = max(s.step>>50, 1)
		heap.Init(&s.order)
	} else if s.order.places[v] != none {
		heap.Fix(&s.order, s.order.places[v])
	}
}

// learn learns a clause from a conflict, goes back to the level where it assigns a literal, and assigns it.
func (s *search) learn(conflict int) {
	seen := map[int]bool{}
	var rest, parents, settled []int
	open, i := 0, len(s.trail)
	resolve := func(clause int) {
		parents = append(parents, clause)
		for _, x := range s.clauses[clause] {
			v := variable(x)
			if seen[v] {
				continue
			}
			seen[v] = true
			s.bump(v)
			switch s.levels[v] {
			case 0:
				settled = append(settled, v)
			case s.level():
				open++
			default:
				rest = append(rest, x)
			}
		}
	}
	resolve(conflict)
	for {
		for i--; !seen[variable(s.trail[i])]; i-- {
		}
		if open--; open == 0 {
			break
		}
		resolve(s.reasons[variable(s.trail[i])])
	}
	learned := append([]int{-s.trail[i]}, rest...)
	back := 0
	for k := 1; k < len(learned); k++ {
		if level := s.levels[variable(learned[k])]; level > back {
			back = level
			learned[1], learned[k] = learned[k], learned[1]
		}
	}
	s.cancel(back)
	s.assign(learned[0], s.add(learned, parents, settled))
	s.step += s.step>>4 + 1
}

// blame returns those decisions from which it follows that a clause is false.
func (s *search) blame(clause []int) []int {
	seen := map[int]bool{}
	var decisions, work []int
	visit := func(clause []int) {
		for _, x := range clause {
			if v := variable(x); !seen[v] && s.levels[v] > 0 {
				seen[v] = true
				work = append(work, v)
			}
		}
	}
	visit(clause)
	for len(work) > 0 {
		v := work[0]
		work = work[1:]
		if s.reasons[v] == none {
			decisions = append(decisions, s.values[v])
		} else {
			visit(s.clauses[s.reasons[v]])
		}
	}
	return decisions
}

// needed returns the clauses on which a clause depends that is false without decisions, in ascending order.
func (s *search) needed(conflict int) []int {
	taken, settled := map[int]bool{}, map[int]bool{}
	var clauses, vars []int
	take := func(i int) {
		if !taken[i] {
			taken[i] = true
			clauses = append(clauses, i)
		}
	}
	settle := func(v int) {
		if !settled[v] {
			settled[v] = true
			vars = append(vars, v)
		}
	}
	take(conflict)
	for _, x := range s.clauses[conflict] {
		settle(variable(x))
	}
	for i, k := 0, 0; i < len(clauses) || k < len(vars); {
		if k < len(vars) {
			reason := s.reasons[vars[k]]
			k++
			take(reason)
			for _, x := range s.clauses[reason] {
				settle(variable(x))
			}
			continue
		}
		for _, p := range s.parents[clauses[i]] {
			take(p)
		}
		for _, v := range s.settled[clauses[i]] {
			settle(v)
		}
		i++
	}
	slices.Sort(clauses)
	return clauses
}
