package plan

import (
	"iter"

	"wayfarer/api"
	"wayfarer/rows"
)

// plans are those that x has: those in T, and those by which it is done.
func plans(x *api.Step) iter.Seq[[]api.Step] {
	return func(yield func([]api.Step) bool) {
		for _, p := range x.T {
			if !yield(p) {
				return
			}
		}
		for _, b := range x.By {
			if hasPlan(b) && !yield(b.T) {
				return
			}
		}
	}
}

// hasPlan tells whether b has one: no step at all is a plan, too, but a By that
// is of another kind has none then.
func hasPlan(b api.By) bool {
	return b.Kind == api.ByChain || len(b.T) > 0
}

// below are the plans that steps of these have, each once.
func below(row [][]api.Step) [][]api.Step {
	met := rows.Met[api.Step]{}
	var next [][]api.Step
	for _, p := range row {
		for i := range p {
			for in := range plans(&p[i]) {
				if met.Add(in) {
					next = append(next, in)
				}
			}
		}
	}
	return next
}

// has tells whether there is such a step in l, or in whichever plan in it.
func has(l []api.Step, such func(x *api.Step) bool) bool {
	met := rows.Met[api.Step]{}
	open := [][]api.Step{l}
	for len(open) > 0 {
		last := len(open) - 1
		p := open[last]
		open = open[:last]
		for i := range p {
			if such(&p[i]) {
				return true
			}
			for in := range plans(&p[i]) {
				if met.Add(in) {
					open = append(open, in)
				}
			}
		}
	}
	return false
}
