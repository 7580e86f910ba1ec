package pred_test

import (
	"slices"
	"testing"

	"wayfarer/api"
)

func TestCheck(t *testing.T) {
	for _, p := range samples() {
		checkCheck(t, p, api.OK)
		for _, f := range arounds() {
			checkCheck(t, f(p), api.OK)
		}
	}
	for _, p := range wrong() {
		checkNone(t, p)
		for _, f := range arounds() {
			checkNone(t, f(p))
			checkNone(t, f(f(p)))
		}
	}
}

// most: how many values, and how many predicates, one of that kind has at
// least and at most.
func most(kind int) (leastV, mostV, leastP, mostP int) {
	switch {
	case kind >= api.Eq && kind <= api.Gte:
		return 1, 1, 0, 0
	case kind >= api.Between && kind <= api.Outside:
		return 2, 2, 0, 0
	case kind == api.Within || kind == api.Without:
		return 0, 1000, 0, 0
	case kind == api.Not:
		return 0, 0, 1, 1
	case kind == api.And || kind == api.Or:
		return 0, 0, 2, 1000
	}
	return 1, 0, 1, 0
}

// Each kind with few and many of each.
func TestHowMany(t *testing.T) {
	counts := []int{0, 1, 2, 3, api.MaxItems - 1, api.MaxItems, api.MaxItems + 1, 3 * api.MaxItems}
	for _, kind := range []int{api.MinInt, -1, 0, 1, 2, 3, 4, 5, 6, 7, 8, 9, 10, 11, 12, 13, 14, 15, 16, 1 << 32, api.MaxInt} {
		leastV, mostV, leastP, mostP := most(kind)
		for _, v := range counts {
			for _, p := range counts {
				x := api.Pred{Kind: kind, V: numbers(v), P: slices.Repeat(preds(eq(1)), p)}
				if v >= leastV && v <= mostV && p >= leastP && p <= mostP {
					checkCheck(t, x, api.OK)
				} else {
					checkNone(t, x)
				}
			}
		}
	}
}

// A list that is empty is one that is nil.
func TestEmptyLists(t *testing.T) {
	for _, p := range samples() {
		if len(p.V) == 0 {
			p.V = []api.Value{}
		}
		if len(p.P) == 0 {
			p.P = []api.Pred{}
		}
		checkCheck(t, p, api.OK)
	}
	checkCheck(t, api.Pred{Kind: api.Within}, api.OK)
	checkNone(t, api.Pred{Kind: api.Eq, V: []api.Value{}, P: []api.Pred{}})
	checkNone(t, api.Pred{Kind: api.Not, V: []api.Value{}, P: []api.Pred{}})
}

func TestCheckValues(t *testing.T) {
	for _, v := range rising() {
		for kind := api.Eq; kind <= api.Gte; kind++ {
			checkCheck(t, of(kind, v), api.OK)
		}
		for kind := api.Between; kind <= api.Without; kind++ {
			checkCheck(t, of(kind, v, num(1)), api.OK)
			checkCheck(t, of(kind, num(1), v), api.OK)
		}
	}
	for _, v := range noValues() {
		for kind := api.Eq; kind <= api.Gte; kind++ {
			checkNone(t, of(kind, v))
		}
		for kind := api.Between; kind <= api.Without; kind++ {
			checkNone(t, of(kind, v, num(1)))
			checkNone(t, of(kind, num(1), v))
		}
		checkNone(t, of(api.Within, append(numbers(api.MaxItems-1), v)...))
		for _, f := range arounds() {
			checkNone(t, around(f, of(api.Eq, v), api.MaxDepth-1))
		}
	}
}

// A value is as deep as one is, however deep the predicate is that it is in.
func TestDeepValues(t *testing.T) {
	deep := within(num(1), api.MaxDepth-1)
	for _, f := range arounds() {
		p := around(f, of(api.Within, num(1), deep), api.MaxDepth-1)
		checkCheck(t, p, api.OK)
		checkCopy(t, p, p)
	}
}

func TestCheckDepth(t *testing.T) {
	for _, f := range arounds() {
		for _, last := range simple() {
			p := last
			for depth := 1; depth <= api.MaxDepth+3; depth++ {
				if depth <= api.MaxDepth {
					checkCheck(t, p, api.OK)
				} else {
					checkNone(t, p)
				}
				p = f(p)
			}
		}
		checkNone(t, around(f, eq(1), 5000))
	}
}

// Predicates side by side are no deeper than one of them.
func TestWideAndDeep(t *testing.T) {
	wide := or(slices.Repeat(preds(eq(1)), api.MaxItems)...)
	for range api.MaxDepth - 2 {
		wide = and(wide, not(eq(1)))
	}
	checkCheck(t, wide, api.OK)
	checkNone(t, not(wide))
	many := slices.Repeat(preds(gt(1)), api.MaxItems)
	many[api.MaxItems-1] = around(not, eq(1), api.MaxDepth-2)
	checkCheck(t, and(many...), api.OK)
	many[api.MaxItems-1] = around(not, eq(1), api.MaxDepth-1)
	checkNone(t, and(many...))
	many[api.MaxItems-1] = gt(1)
	checkCheck(t, or(many...), api.OK)
	many[api.MaxItems-1] = of(api.Gt)
	checkNone(t, or(many...))
}
