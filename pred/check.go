package pred

import (
	"slices"

	"wayfarer/api"
	"wayfarer/value"
)

// Check is ErrArg, unless p is a predicate.
func Check(p api.Pred) api.Errno {
	if !isPred(p, top) {
		return api.ErrArg
	}
	return api.OK
}

func isPred(p api.Pred, level int) bool {
	// How many there are is asked ahead of what they are: then a row that is
	// too long is not gone through, and what is in itself ends at MaxDepth.
	if level > api.MaxDepth || !fits(p) {
		return false
	}
	noValue := func(v api.Value) bool { return value.Check(v) != api.OK }
	noPred := func(x api.Pred) bool { return !isPred(x, level+1) }
	return !slices.ContainsFunc(p.V, noValue) && !slices.ContainsFunc(p.P, noPred)
}

// fits tells whether p has as many values and predicates as its kind has,
// whatever they are.
func fits(p api.Pred) bool {
	values, preds := len(p.V), len(p.P)
	switch p.Kind {
	case api.Eq, api.Neq, api.Lt, api.Lte, api.Gt, api.Gte:
		return values == 1 && preds == 0
	case api.Between, api.Inside, api.Outside:
		return values == 2 && preds == 0
	case api.Within, api.Without:
		return values <= api.MaxItems && preds == 0
	case api.Not:
		return values == 0 && preds == 1
	case api.And, api.Or:
		return values == 0 && preds >= 2 && preds <= api.MaxItems
	}
	return false
}
