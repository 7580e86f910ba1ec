package tree

import (
	"slices"

	"wayfarer/api"
	"wayfarer/value"
)

// Same tells whether both are the same, name by name, argument by argument.
func Same(a []api.Call, b []api.Call) bool {
	return sameAt(a, b, top)
}

// sameAt compares two chains that stand at that level, as far down as Copy
// copies them.
func sameAt(a, b []api.Call, level int) bool {
	if level > api.MaxNest {
		return true
	}
	sameArg := func(x, y api.Arg) bool {
		return x.Kind == y.Kind && x.S == y.S && value.Same(x.V, y.V) &&
			samePred(x.P, y.P) && sameAt(x.C, y.C, level+1)
	}
	sameCall := func(x, y api.Call) bool {
		return x.Name == y.Name && slices.EqualFunc(x.Args, y.Args, sameArg)
	}
	return slices.EqualFunc(a, b, sameCall)
}

func samePred(p, q api.Pred) bool {
	return samePredAt(p, q, top)
}

// samePredAt compares two predicates that stand at that level, as far down as
// pred.Copy copies them.
func samePredAt(p, q api.Pred, level int) bool {
	if p.Kind != q.Kind || level > api.MaxDepth {
		return p.Kind == q.Kind
	}
	below := func(x, y api.Pred) bool { return samePredAt(x, y, level+1) }
	return slices.EqualFunc(p.V, q.V, value.Same) && slices.EqualFunc(p.P, q.P, below)
}
