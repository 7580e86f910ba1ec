package rows

import (
	"slices"

	"wayfarer/api"
	"wayfarer/value"
)

// Same tells whether both are the same: whether same holds of each two, which
// asks nothing of the rows within them, and whether these are the same, too,
// however deep that goes.
func Same[T any](a, b []T, same func(x, y *T) bool, within func(x *T) [][]T) bool {
	s := search[T]{same: same, within: within, met: kin[T]{}}
	if !s.lay(a, b) {
		return false
	}
	for len(s.open) > 0 {
		if !s.next() {
			return false
		}
	}
	return true
}

// SamePreds tells whether both are the same.
func SamePreds(p, q api.Pred) bool {
	same := func(x, y *api.Pred) bool {
		return x.Kind == y.Kind && slices.EqualFunc(x.V, y.V, value.Same)
	}
	within := func(x *api.Pred) [][]api.Pred { return [][]api.Pred{x.P} }
	return same(&p, &q) && Same(p.P, q.P, same, within)
}

// pair is two rows that are to be the same.
type pair[T any] struct {
	a, b []T
}

// search looks for two that are not the same.
type search[T any] struct {
	same   func(x, y *T) bool
	within func(x *T) [][]T
	// Rows at places that are kin are not asked again: so what is in itself has
	// an end, and rows that are handed in for many places are asked once.
	met kin[T]
	// What is still to be asked is a row, not calls within calls: those would
	// need too much room for what is very deep.
	open []pair[T]
}

// lay lays down two rows that are still to be asked. It tells whether they are
// of one length.
func (s *search[T]) lay(a, b []T) bool {
	if len(a) != len(b) {
		return false
	}
	if s.met.join(At(a), At(b)) {
		s.open = append(s.open, pair[T]{a, b})
	}
	return true
}

// next asks the two rows that were laid down last, and lays down what is within
// them.
func (s *search[T]) next() bool {
	last := len(s.open) - 1
	x := s.open[last]
	s.open = s.open[:last]
	for i := range x.a {
		if !s.ask(&x.a[i], &x.b[i]) {
			return false
		}
	}
	return true
}

func (s *search[T]) ask(x, y *T) bool {
	inX, inY := s.within(x), s.within(y)
	if len(inX) != len(inY) || !s.same(x, y) {
		return false
	}
	for i := range inX {
		if !s.lay(inX[i], inY[i]) {
			return false
		}
	}
	return true
}
