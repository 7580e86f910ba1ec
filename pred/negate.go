package pred

import (
	"wayfarer/api"
	"wayfarer/value"
)

// Negate is the predicate that holds where p does not, or nothing, if p is
// none.
func Negate(p api.Pred) api.Pred {
	if Check(p) != api.OK {
		return api.Pred{}
	}
	return negated(p)
}

// negated is p negated, if p is a predicate. It is laid anew on the way: one
// Copy of the whole would cut a Not that is around what stands at MaxDepth.
func negated(p api.Pred) api.Pred {
	switch p.Kind {
	case api.Eq, api.Neq, api.Within, api.Without:
		return api.Pred{Kind: opposite(p.Kind), V: each(p.V, value.Copy)}
	case api.And, api.Or:
		return api.Pred{Kind: opposite(p.Kind), P: each(p.P, negated)}
	case api.Not:
		return Copy(p.P[0])
	}
	return api.Pred{Kind: api.Not, P: []api.Pred{Copy(p)}}
}

// opposite is the kind that, of the same values, or of what is in it negated,
// holds where this kind does not; 0 of a kind that has none.
func opposite(kind int) int {
	switch kind {
	case api.Eq:
		return api.Neq
	case api.Neq:
		return api.Eq
	case api.Within:
		return api.Without
	case api.Without:
		return api.Within
	case api.And:
		return api.Or
	case api.Or:
		return api.And
	}
	return 0
}
