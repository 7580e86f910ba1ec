package tree

import (
	"slices"

	"wayfarer/api"
	"wayfarer/value"
)

// twins are two predicates that are to be the same.
type twins struct {
	p, q *api.Pred
}

// alike tells whether both are the same, but for the predicates in them.
func (x twins) alike() bool {
	return x.p.Kind == x.q.Kind && len(x.p.P) == len(x.q.P) && slices.EqualFunc(x.p.V, x.q.V, value.Same)
}

// samePred tells whether both are the same, however deep they are.
func samePred(p, q api.Pred) bool {
	met := kin{}
	// What is still to be asked is a row, not calls within calls: those would
	// need too much room for predicates that are very deep.
	open := []twins{{&p, &q}}
	for len(open) > 0 {
		last := len(open) - 1
		x := open[last]
		open = open[:last]
		if !x.alike() {
			return false
		}
		if len(x.p.P) == 0 || !met.join(x) {
			continue
		}
		for i := range x.p.P {
			open = append(open, twins{&x.p.P[i], &x.q.P[i]})
		}
	}
	return true
}

// kin are places of predicates, each with another one whose predicate has to be
// the same. What is in twins that are kin is not asked again: so predicates
// that are in themselves have an end, and rows that are handed in for many
// places are gone through once.
type kin map[*api.Pred]*api.Pred

// join makes both kin, and tells whether they were not.
func (k kin) join(x twins) bool {
	p, q := k.head(x.p), k.head(x.q)
	if p == q {
		return false
	}
	k[p] = q
	return true
}

// head is the place that stands for p and all its kin.
func (k kin) head(p *api.Pred) *api.Pred {
	for next := k[p]; next != nil; next = k[p] {
		// The way to the head is made shorter for the next one who asks.
		if over := k[next]; over != nil {
			k[p] = over
		}
		p = next
	}
	return p
}
