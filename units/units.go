// Package units propagates units quickly, again and again: whether a conflict is found does not depend on the order of the clauses.
package units

// Engine contains clauses, which can be switched off. Two literals of each clause are watched: as long as both are not false, the clause assigns nothing.
type Engine struct {
	clauses [][]int
	off     []bool
	watched [][]int
	short   []int
	values  []int
	reasons []int
	trail   []int
}

// none is the reason of a literal that is assumed or open.
const none = -1

// New returns an engine with some clauses without double variables, which are at most vars.
func New(vars int, l [][]int) *Engine {
	e := &Engine{watched: make([][]int, 2*vars+2), values: make([]int, vars+1), reasons: make([]int, vars+1)}
	for v := range e.reasons {
		e.reasons[v] = none
	}
	for _, clause := range l {
		e.Add(clause)
	}
	return e
}

// place is the index of the clauses in which a literal is watched.
func place(x int) int {
	if x < 0 {
		return 1 - 2*x
	}
	return 2 * x
}

// Add adds a clause behind all others.
func (e *Engine) Add(clause []int) {
	i := len(e.clauses)
	own := make([]int, len(clause))
	copy(own, clause)
	e.clauses = append(e.clauses, own)
	e.off = append(e.off, false)
	if len(own) < 2 {
		e.short = append(e.short, i)
		return
	}
	for _, x := range own[:2] {
		e.watched[place(x)] = append(e.watched[place(x)], i)
	}
}

// Switch leaves a clause out, or takes it in again.
func (e *Engine) Switch(i int, off bool) { e.off[i] = off }

func variable(x int) int { return max(x, -x) }

func (e *Engine) isTrue(x int) bool  { return e.values[variable(x)] == x }
func (e *Engine) isFalse(x int) bool { return e.values[variable(x)] == -x }

func (e *Engine) assign(x, reason int) {
	e.values[variable(x)], e.reasons[variable(x)] = x, reason
	e.trail = append(e.trail, x)
}

// Conflict propagates a list of assumed literals by the clauses before a limit that are not left out, and returns the clauses that are needed for a conflict, or false if there is none.
func (e *Engine) Conflict(assumed []int, limit int) ([]int, bool) {
	for _, x := range e.trail {
		e.values[variable(x)], e.reasons[variable(x)] = 0, none
	}
	e.trail = e.trail[:0]
	for _, x := range assumed {
		if !e.isTrue(x) {
			e.assign(x, none)
		}
	}
	for _, i := range e.short {
		if i >= limit || e.off[i] {
			continue
		}
		if len(e.clauses[i]) == 0 || e.isFalse(e.clauses[i][0]) {
			return e.used(i), true
		}
		if x := e.clauses[i][0]; !e.isTrue(x) {
			e.assign(x, i)
		}
	}
	for next := 0; next < len(e.trail); next++ {
		if i := e.visit(-e.trail[next], limit); i != none {
			return e.used(i), true
		}
	}
	return nil, false
}

// visit moves the watches from a literal that has become false, and returns a clause that is false, or none.
func (e *Engine) visit(x, limit int) int {
	l := e.watched[place(x)]
	kept := l[:0]
	conflict := none
	for k, i := range l {
		if i >= limit || e.off[i] {
			kept = append(kept, i)
			continue
		}
		clause := e.clauses[i]
		if clause[0] == x {
			clause[0], clause[1] = clause[1], clause[0]
		}
		if !e.isTrue(clause[0]) && e.moved(clause, i) {
			continue
		}
		kept = append(kept, i)
		if e.isTrue(clause[0]) {
			continue
		}
		if e.isFalse(clause[0]) {
			kept = append(kept, l[k+1:]...)
			conflict = i
			break
		}
		e.assign(clause[0], i)
	}
	e.watched[place(x)] = kept
	return conflict
}

// moved watches another literal than the second one, if there is one that is not false.
func (e *Engine) moved(clause []int, i int) bool {
	for k := 2; k < len(clause); k++ {
		if !e.isFalse(clause[k]) {
			clause[1], clause[k] = clause[k], clause[1]
			e.watched[place(clause[1])] = append(e.watched[place(clause[1])], i)
			return true
		}
	}
	return false
}

// used returns the clauses on which a clause depends that is false.
func (e *Engine) used(i int) []int {
	seen := map[int]bool{i: true}
	l := []int{i}
	for next := 0; next < len(l); next++ {
		for _, x := range e.clauses[l[next]] {
			if r := e.reasons[variable(x)]; r != none && !seen[r] {
				seen[r] = true
				l = append(l, r)
			}
		}
	}
	return l
}
