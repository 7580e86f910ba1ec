package tree

import (
	"slices"

	"wayfarer/api"
	"wayfarer/rows"
	"wayfarer/value"
)

// Same tells whether both are the same, name by name, argument by argument.
func Same(a []api.Call, b []api.Call) bool {
	return sameAt(a, b, top)
}

// sameAt compares two chains that stand at that level, as far down as Copy
// copies them.
func sameAt(a, b []api.Call, level int) bool {
	if level > bottom {
		return true
	}
	sameArg := func(x, y api.Arg) bool {
		return x.Kind == y.Kind && x.S == y.S && value.Same(x.V, y.V) &&
			rows.SamePreds(x.P, y.P) && sameAt(x.C, y.C, level+1)
	}
	sameCall := func(x, y api.Call) bool {
		return x.Name == y.Name && slices.EqualFunc(x.Args, y.Args, sameArg)
	}
	return slices.EqualFunc(a, b, sameCall)
}
