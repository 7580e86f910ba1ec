package pred

import (
	"slices"

	"wayfarer/api"
	"wayfarer/value"
)

// Test tells whether p is a predicate, and holds of v.
func Test(p api.Pred, v api.Value) bool {
	return Check(p) == api.OK && holds(p, v)
}

// holds tells whether p, which is a predicate, holds of v.
func holds(p api.Pred, v api.Value) bool {
	same := func(x api.Value) bool { return value.Same(v, x) }
	does := func(x api.Pred) bool { return holds(x, v) }
	doesNot := func(x api.Pred) bool { return !holds(x, v) }
	switch p.Kind {
	case api.Eq, api.Within:
		return slices.ContainsFunc(p.V, same)
	case api.Neq, api.Without:
		return !slices.ContainsFunc(p.V, same)
	case api.Not:
		return slices.ContainsFunc(p.P, doesNot)
	case api.And:
		return !slices.ContainsFunc(p.P, doesNot)
	case api.Or:
		return slices.ContainsFunc(p.P, does)
	}
	return stands(p, v)
}

// stands tells whether v stands to the values of p as its kind asks.
func stands(p api.Pred, v api.Value) bool {
	otherKind := func(x api.Value) bool { return x.Kind != v.Kind }
	if slices.ContainsFunc(p.V, otherKind) {
		return false
	}
	first, last := value.Cmp(v, p.V[0]), value.Cmp(v, p.V[len(p.V)-1])
	switch p.Kind {
	case api.Lt:
		return first < 0
	case api.Lte:
		return first <= 0
	case api.Gt:
		return first > 0
	case api.Gte:
		return first >= 0
	case api.Between:
		return first >= 0 && last < 0
	case api.Inside:
		return first > 0 && last < 0
	case api.Outside:
		return first < 0 || last > 0
	}
	return false
}
