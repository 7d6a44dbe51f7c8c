package solver

import (
	"iter"

	"roundtable/api"
	"roundtable/clauses"
)

// masks are the variables of a clause, and of its negations, as sets: the variable v is the bit v.
type masks struct{ plain, negated int }

// byLast returns the clauses as masks by their last variables; empty clauses belong to 0.
func byLast(c api.Clauses) [][]masks {
	l := make([][]masks, c.Vars+1)
	for _, clause := range c.List {
		var m masks
		last := 0
		for _, x := range clause {
			last = variable(x)
			if x > 0 {
				m.plain |= 1 << last
			} else {
				m.negated |= 1 << last
			}
		}
		l[last] = append(l[last], m)
	}
	return l
}

// models yields all models in ascending order, as sets of the variables that are true.
func models(c api.Clauses) iter.Seq[int] {
	return func(yield func(int) bool) {
		l := byLast(c)
		var extend func(v, set int) bool
		extend = func(v, set int) bool {
			for _, m := range l[v] {
				if m.plain&set == 0 && m.negated&^set == 0 {
					return true
				}
			}
			if v == c.Vars {
				return yield(set)
			}
			return extend(v+1, set|1<<(v+1)) && extend(v+1, set)
		}
		extend(0, 0)
	}
}

// Models returns all models in ascending order.
func Models(c api.Clauses, most int) ([][]int, api.Errno) {
	if e := clauses.Check(c); e != api.OK {
		return nil, e
	}
	if most < 0 || most > api.MaxList {
		return nil, api.ErrRange
	}
	if c.Vars > few {
		return nil, api.ErrLimit
	}
	var l [][]int
	for set := range models(c) {
		if len(l) == most {
			return nil, api.ErrMany
		}
		model := make([]int, c.Vars)
		for i := range model {
			model[i] = -1 - i
			if set>>(i+1)&1 == 1 {
				model[i] = i + 1
			}
		}
		l = append(l, model)
	}
	return l, api.OK
}

// Count returns the number of all models.
func Count(c api.Clauses) (int, api.Errno) {
	if e := clauses.Check(c); e != api.OK {
		return 0, e
	}
	if c.Vars > few {
		return 0, api.ErrLimit
	}
	number := 0
	for range models(c) {
		number++
	}
	return number, api.OK
}
