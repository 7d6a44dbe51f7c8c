// Package choices yields the choices of values for the relevant final views of a system that are permitted in all executions.
package choices

import (
	"iter"

	"roundtable/api"
	"roundtable/system"
)

// demand says that the views of a set of processes have values that are permitted together.
type demand struct {
	allowed [][]int
	set     int
	final   []int
}

// met reports whether a choice meets a demand.
func (d demand) met(values []int) bool {
	decisions := make([]int, len(d.final))
	for p, view := range d.final {
		decisions[p] = values[view]
	}
	return system.Permitted(d.allowed, d.set, decisions)
}

// demands returns for each view the demands of those executions whose obliged processes have no later view.
func demands(s api.System) map[int][]demand {
	l := map[int][]demand{}
	for _, x := range s.Executions {
		d := demand{system.Allowed(s, x), system.Obliged(system.Processes(s), x.Word), system.Final(x)}
		last := -1
		for p, view := range d.final {
			if system.Has(d.set, p) {
				last = max(last, view)
			}
		}
		if last >= 0 {
			l[last] = append(l[last], d)
		}
	}
	return l
}

// Product returns the product of the numbers of values of some views, or one more than most, if it is greater.
func Product(domains [][]int, views []int, most int) int {
	product := 1
	for _, view := range views {
		if len(domains[view]) == 0 {
			return 0
		}
		product = min(product*len(domains[view]), most+1)
	}
	return product
}

// Solving yields the choices of values of domains that are permitted in all executions, in lexicographic order. A choice has a value for each view, -1 for those that are not relevant; it is the same list each time.
func Solving(s api.System, domains [][]int) iter.Seq[[]int] {
	return func(yield func([]int) bool) {
		views := system.Relevant(s)
		of := demands(s)
		values := make([]int, len(s.Table.Views))
		for view := range values {
			values[view] = -1
		}
		var choose func(k int) bool
		choose = func(k int) bool {
			if k == len(views) {
				return yield(values)
			}
			for _, value := range domains[views[k]] {
				values[views[k]] = value
				if all(of[views[k]], values) && !choose(k+1) {
					return false
				}
			}
			return true
		}
		choose(0)
	}
}

// all reports whether a choice meets all of some demands.
func all(l []demand, values []int) bool {
	for _, d := range l {
		if !d.met(values) {
			return false
		}
	}
	return true
}
