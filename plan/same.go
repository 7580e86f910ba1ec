package plan

import (
	"slices"

	"wayfarer/api"
	"wayfarer/rows"
	"wayfarer/value"
)

// Same tells whether both are the same, step by step, field by field, however
// deep the plans in them are.
func Same(a []api.Step, b []api.Step) bool {
	within := func(x *api.Step) [][]api.Step { return slices.Collect(plans(x)) }
	return rows.Same(a, b, sameStep, within)
}

// sameStep tells whether both are the same, whatever the steps of the plans in
// them are.
func sameStep(x, y *api.Step) bool {
	return x.Op == y.Op && slices.Equal(x.S, y.S) && slices.Equal(x.N, y.N) &&
		value.Same(x.V, y.V) && rows.SamePreds(x.P, y.P) &&
		slices.EqualFunc(x.By, y.By, sameBy) && slices.Equal(x.As, y.As)
}

func sameBy(b, c api.By) bool {
	// How many steps it has tells where plans stand: in a row of those within,
	// one by one, they might be the same, and stand in other places.
	return b.Kind == c.Kind && b.Key == c.Key && b.Desc == c.Desc && len(b.T) == len(c.T)
}
