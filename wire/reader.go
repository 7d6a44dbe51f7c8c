package wire

import (
	"roundtable/api"
)

// longest is the greatest number of bytes of a number that is read.
const longest = 5

// reader reads numbers. It has failed if there was none; then all further numbers are 0.
type reader struct {
	rest   string
	failed bool
}

// number reads a number with the least number of bytes.
func (r *reader) number() int {
	x := 0
	for i := 0; i < len(r.rest) && i < longest && !r.failed; i++ {
		c := r.rest[i]
		x |= int(c&127) << (7 * i)
		if c < 128 {
			// A last byte 0 could be left out.
			r.failed = c == 0 && i > 0
			r.rest = r.rest[i+1:]
			if r.failed {
				return 0
			}
			return x
		}
	}
	r.failed = true
	return 0
}

// less reads a number that was increased by 1.
func (r *reader) less() int { return r.number() - 1 }

// repeat reads n numbers, each by a method; no more than there are bytes.
func (r *reader) repeat(n int, read func() int) []int {
	if n > len(r.rest) {
		r.failed = true
	}
	var l []int
	for i := 0; i < n && !r.failed; i++ {
		l = append(l, read())
	}
	return l
}

// counted reads a number, and as many numbers, each by a method.
func (r *reader) counted(read func() int) []int {
	return r.repeat(r.number(), read)
}

// sizes reads the numbers of processes, rounds, inputs and outputs, and reports whether they are in their ranges.
func (r *reader) sizes(m *api.Machine) bool {
	m.N, m.Rounds, m.Ins, m.Outs = r.number(), r.number(), r.number(), r.number()
	return !r.failed && m.N >= 1 && m.N <= api.MaxProcs && m.Rounds <= api.MaxRounds && m.Ins <= api.MaxValues && m.Outs <= api.MaxValues
}

// machine reads the numbers of a machine.
func (r *reader) machine() (api.Machine, bool) {
	var m api.Machine
	if !r.sizes(&m) {
		return api.Machine{}, false
	}
	for range m.N {
		m.First = append(m.First, r.repeat(m.Ins, r.less))
	}
	for range m.Rounds + 1 {
		var row [][]int
		for range m.N {
			row = append(row, r.counted(r.less))
		}
		m.Out = append(m.Out, row)
	}
	for k := range m.Rounds {
		from := make([][][]int, m.N)
		for p := range from {
			from[p] = make([][]int, m.N)
			for q := range from[p] {
				if q != p {
					from[p][q] = r.repeat(len(m.Out[k][p]), r.number)
				}
			}
		}
		m.Symbols = append(m.Symbols, from)
	}
	for number := r.number(); number > 0 && !r.failed; number-- {
		m.Steps = append(m.Steps, r.step(m.N))
	}
	return m, !r.failed && r.rest == ""
}

// step reads a step of a machine of n processes.
func (r *reader) step(n int) api.Step {
	s := api.Step{Round: r.number(), Proc: r.number()}
	for q := range s.Heard {
		s.Heard[q] = -1
		if q < n {
			s.Heard[q] = r.less()
		}
	}
	s.To = r.number()
	return s
}
