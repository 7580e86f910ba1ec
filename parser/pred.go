package parser

import "wayfarer/api"

// pred reads a predicate that stands at that level.
func (r *reader) pred(level int) (api.Pred, api.Errno) {
	kind := predKind(r.next())
	if kind == 0 {
		return api.Pred{}, api.ErrText
	}
	if level > api.MaxDepth {
		return api.Pred{}, api.ErrLong
	}
	r.skip()
	if isMade(kind) {
		l, e := r.preds(has(kind), level+1)
		return api.Pred{Kind: kind, P: l}, e
	}
	// A predicate's values are not in one another: each stands at the top.
	l, e := r.values(args, has(kind), top, endOfArgs)
	return api.Pred{Kind: kind, V: l}, e
}

// preds reads the predicates, which stand at that level, of another one.
func (r *reader) preds(a amount, level int) ([]api.Pred, api.Errno) {
	one := func(had int) (api.Pred, api.Errno) {
		if had == api.MaxItems && predKind(r.next()) != 0 {
			return api.Pred{}, api.ErrLong
		}
		return r.pred(level)
	}
	return between(&r.row, args, a, one, endOfArgs)
}

// isMade tells whether a predicate of that kind is made of predicates.
func isMade(kind int) bool {
	switch kind {
	case api.Not, api.And, api.Or:
		return true
	}
	return false
}

// has is how many values a predicate of that kind has, or predicates, if it is
// made of these.
func has(kind int) amount {
	switch kind {
	case api.Between, api.Inside, api.Outside:
		return amount{least: 2}
	case api.Within, api.Without:
		return amount{more: true}
	case api.And, api.Or:
		return amount{least: 2, more: true}
	}
	return amount{least: 1}
}
