package machine

import (
	"cmp"
	"slices"

	"roundtable/api"
)

// shaped reports whether a machine has lists of the lengths that it should have.
func shaped(m api.Machine) bool {
	if len(m.First) != m.N || len(m.Out) != m.Rounds+1 || len(m.Symbols) != m.Rounds {
		return false
	}
	for _, l := range m.First {
		if len(l) != m.Ins {
			return false
		}
	}
	for _, l := range m.Out {
		if len(l) != m.N {
			return false
		}
	}
	for k, l := range m.Symbols {
		if len(l) != m.N {
			return false
		}
		for p, to := range l {
			if !shapedRow(m, k, p, to) {
				return false
			}
		}
	}
	return true
}

// shapedRow reports whether the symbols of a process have the right numbers.
func shapedRow(m api.Machine, k, p int, to [][]int) bool {
	if len(to) != m.N {
		return false
	}
	for q, l := range to {
		wanted := len(m.Out[k][p])
		if q == p {
			wanted = 0
		}
		if len(l) != wanted {
			return false
		}
	}
	return true
}

// outside returns the condition to be less than a number or greater than another one.
func outside(least, most int) func(x int) bool {
	return func(x int) bool { return x < least || x > most }
}

// checkNumbers returns the error of the numbers of First, Out and Symbols.
func checkNumbers(m api.Machine) api.Errno {
	for p, l := range m.First {
		if slices.ContainsFunc(l, outside(-1, len(m.Out[0][p])-1)) {
			return api.ErrRange
		}
	}
	for _, l := range slices.Concat(m.Out...) {
		if slices.ContainsFunc(l, outside(-1, m.Outs-1)) {
			return api.ErrRange
		}
	}
	for _, to := range slices.Concat(m.Symbols...) {
		for _, l := range to {
			if slices.ContainsFunc(l, outside(0, api.MaxNumber)) {
				return api.ErrRange
			}
		}
	}
	return api.OK
}

// checkStep returns the error of a step without that of the order.
func checkStep(m api.Machine, s api.Step) api.Errno {
	if s.Round < 0 || s.Round >= m.Rounds || s.Proc < 0 || s.Proc >= m.N {
		return api.ErrRange
	}
	if s.To < 0 || s.To >= len(m.Out[s.Round+1][s.Proc]) {
		return api.ErrRange
	}
	for _, x := range s.Heard[m.N:] {
		if x != -1 {
			return api.ErrForm
		}
	}
	for q, x := range s.Heard[:m.N] {
		least, most := -1, api.MaxNumber
		if q == s.Proc {
			least, most = 0, len(m.Out[s.Round][q])-1
		}
		if x < least || x > most {
			return api.ErrRange
		}
	}
	return api.OK
}

// compareSteps orders steps by their rounds, then by their processes, then by what is heard.
func compareSteps(s, t api.Step) int {
	return cmp.Or(cmp.Compare(s.Round, t.Round), cmp.Compare(s.Proc, t.Proc), slices.Compare(s.Heard[:], t.Heard[:]))
}

// Check returns OK for well-formed machines.
func Check(m api.Machine) api.Errno {
	value := outside(1, api.MaxValues)
	if m.N < 1 || m.N > api.MaxProcs || m.Rounds < 0 || m.Rounds > api.MaxRounds || value(m.Ins) || value(m.Outs) {
		return api.ErrRange
	}
	if !shaped(m) {
		return api.ErrShape
	}
	if states(m) > api.MaxViews || len(m.Steps) > api.MaxSteps {
		return api.ErrMany
	}
	if e := checkNumbers(m); e != api.OK {
		return e
	}
	for i, s := range m.Steps {
		if e := checkStep(m, s); e != api.OK {
			return e
		}
		if i > 0 && compareSteps(m.Steps[i-1], s) >= 0 {
			return api.ErrOrder
		}
	}
	return api.OK
}
