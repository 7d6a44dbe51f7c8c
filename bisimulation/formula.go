package bisimulation

import (
	"slices"

	"roundtable/api"
	"roundtable/formula"
	"roundtable/partition"
	"roundtable/points"
	"roundtable/system"
)

// tries is how many points are tried to tell two classes of an agent apart, and patience how many pairs of points are told apart as shortly as possible before any formula is good enough.
const (
	tries    = 3
	patience = 500
)

// fact is a formula with the points at which it is true.
type fact struct {
	f     api.Formula
	holds []bool
}

// finder searches for formulas that are true at one point and not at another one.
type finder struct {
	s       api.System
	x       Structure
	classes [][][]int
	levels  [][]int
	found   map[[3]int]fact
	number  int
}

// Formula returns a formula that is true at the point a, and not at b.
func Formula(s api.System, a, b int) (api.Formula, bool, api.Errno) {
	x, e := Of(s)
	if e != api.OK {
		return api.Formula{}, false, e
	}
	if a < 0 || a >= len(x.Atoms) || b < 0 || b >= len(x.Atoms) {
		return api.Formula{}, false, api.ErrNone
	}
	d := &finder{s: s, x: x, found: map[[3]int]fact{}}
	for _, l := range x.Agents {
		classes, _ := partition.Classes(l)
		d.classes = append(d.classes, classes)
	}
	different := false
	for labels := range partitions(x) {
		// No formula tells points apart whose rank is greater than its depth.
		if different = labels[a] != labels[b]; different || len(d.levels) <= api.MaxDepth {
			d.levels = append(d.levels, labels)
		}
		if different {
			break
		}
	}
	if !different {
		return api.Formula{}, false, api.OK
	}
	if len(d.levels) > api.MaxDepth {
		return api.Formula{}, false, api.ErrUnknown
	}
	y, ok := d.find(a, b)
	if !ok {
		return api.Formula{}, false, api.ErrUnknown
	}
	return copied(y.f), true, api.OK
}

// copied returns a formula whose parts share no memory.
func copied(f api.Formula) api.Formula {
	args := make([]api.Formula, len(f.Args))
	for i, a := range f.Args {
		args[i] = copied(a)
	}
	f.Args = args
	return f
}

// rank returns the number of the first partition in which two points are in different classes.
func (d *finder) rank(a, b int) int {
	return slices.IndexFunc(d.levels, func(l []int) bool { return l[a] != l[b] })
}

// find returns a formula that is true at a, and not at b, which are in different classes of one of the partitions.
func (d *finder) find(a, b int) (fact, bool) {
	m := d.rank(a, b)
	key := [3]int{m, d.levels[m][a], d.levels[m][b]}
	if y, ok := d.found[key]; ok {
		return y, len(y.holds) > 0
	}
	y, ok := d.search(a, b, m)
	if !ok {
		y = fact{}
	}
	d.found[key] = y
	return y, ok
}

// search tries the ways in which two points of a rank can differ, and returns the shortest formula.
func (d *finder) search(a, b, m int) (fact, bool) {
	if m == 0 {
		return d.atom(a, b)
	}
	d.number++
	var best fact
	least := api.MaxNodes + 1
	// enough offers a fact that depends on another one, and reports whether no other one is needed.
	enough := func(y fact, ok bool, change func(fact) fact) bool {
		if ok {
			y = change(y)
		}
		if nodes, depth := formula.Size(y.f); ok && nodes < least && depth <= api.MaxDepth {
			best, least = y, nodes
		}
		return d.number > patience && least <= api.MaxNodes
	}
	before := d.levels[m-1]
	if i, k := d.x.Next[a], d.x.Next[b]; i >= 0 && k >= 0 && before[i] != before[k] {
		if y, ok := d.find(i, k); enough(y, ok, d.next) {
			return best, true
		}
	}
	for p, l := range d.x.Agents {
		of, other := d.classes[p][l[a]], d.classes[p][l[b]]
		for _, i := range unmatched(before, of, other) {
			if y, ok := d.apart(i, other); enough(y, ok, func(y fact) fact { return not(d.knows(p, not(y))) }) {
				return best, true
			}
		}
		for _, i := range unmatched(before, other, of) {
			if y, ok := d.apart(i, of); enough(y, ok, func(y fact) fact { return d.knows(p, not(y)) }) {
				return best, true
			}
		}
	}
	return best, least <= api.MaxNodes
}

// unmatched returns some points of a list whose label no point of another list has, each label once.
func unmatched(labels, l, other []int) []int {
	seen := map[int]bool{}
	for _, i := range other {
		seen[labels[i]] = true
	}
	var some []int
	for _, i := range l {
		if !seen[labels[i]] && len(some) < tries {
			seen[labels[i]] = true
			some = append(some, i)
		}
	}
	return some
}

// apart returns a formula that is true at a point, and at none of some others.
func (d *finder) apart(a int, others []int) (fact, bool) {
	y := fact{holds: slices.Repeat([]bool{true}, len(d.x.Atoms))}
	first := true
	for _, b := range others {
		if !y.holds[b] {
			continue
		}
		z, ok := d.find(a, b)
		if nodes, _ := formula.Size(y.f); !ok || nodes > api.MaxNodes {
			return fact{}, false
		}
		if first {
			y, first = z, false
		} else {
			y = and(y, z)
		}
	}
	return y, true
}

// not returns the negation of a fact.
func not(y fact) fact {
	holds := make([]bool, len(y.holds))
	for i, ok := range y.holds {
		holds[i] = !ok
	}
	if y.f.Op == api.FormulaNot {
		return fact{y.f.Args[0], holds}
	}
	return fact{api.Formula{Op: api.FormulaNot, Args: []api.Formula{y.f}}, holds}
}

func and(y, z fact) fact {
	holds := make([]bool, len(y.holds))
	for i := range holds {
		holds[i] = y.holds[i] && z.holds[i]
	}
	return fact{api.Formula{Op: api.FormulaAnd, Args: []api.Formula{y.f, z.f}}, holds}
}

// knows returns that a process knows a fact.
func (d *finder) knows(p int, y fact) fact {
	holds := make([]bool, len(y.holds))
	for _, members := range d.classes[p] {
		all := !slices.ContainsFunc(members, func(i int) bool { return !y.holds[i] })
		for _, i := range members {
			holds[i] = all
		}
	}
	return fact{api.Formula{Op: api.FormulaKnows, Proc: p, Args: []api.Formula{y.f}}, holds}
}

// next returns that a fact is true at the next point.
func (d *finder) next(y fact) fact {
	holds := make([]bool, len(y.holds))
	for i := range holds {
		k := d.x.Next[i]
		holds[i] = k >= 0 && y.holds[k]
	}
	return fact{api.Formula{Op: api.FormulaNext, Args: []api.Formula{y.f}}, holds}
}

// atoms returns the atoms that can be true at one of two points alone.
func (d *finder) atoms(a, b int) []api.Formula {
	_, k := system.Place(d.s, a)
	l := []api.Formula{{Op: api.FormulaAt, Value: k}}
	e, _ := system.Place(d.s, a)
	in := d.s.Problem.Task.Cases[d.s.Executions[e].Case].In
	for p := range d.s.Table.N {
		l = append(l, api.Formula{Op: api.FormulaIn, Proc: p, Value: in[p]}, api.Formula{Op: api.FormulaFaulty, Proc: p})
		for q := range d.s.Table.N {
			l = append(l, api.Formula{Op: api.FormulaHeard, Proc: p, Other: q})
		}
	}
	return l
}

// atom returns an atom, or its negation, that is true at a point alone.
func (d *finder) atom(a, b int) (fact, bool) {
	for _, f := range d.atoms(a, b) {
		holds, _ := points.Atom(d.s, api.Rule{}, f)
		if holds[a] == holds[b] {
			continue
		}
		y := fact{f, holds}
		if holds[b] {
			y = not(y)
		}
		return y, true
	}
	return fact{}, false
}
