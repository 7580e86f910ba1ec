package pred_test

import (
	"slices"
	"testing"

	"wayfarer/api"
)

// Each kind of none, of one, of two and more.
func TestJoin(t *testing.T) {
	for _, kind := range []int{api.MinInt, -1, 0, 1, 2, 3, 4, 5, 6, 7, 8, 9, 10, 11, 12, 13, 14, 15, 16, api.MaxInt} {
		_, _, leastP, mostP := most(kind)
		leastV, _, _, _ := most(kind)
		for _, n := range []int{0, 1, 2, 3, 7, api.MaxItems - 1, api.MaxItems, api.MaxItems + 1, 3 * api.MaxItems} {
			l := make([]api.Pred, n)
			for i := range l {
				l[i] = samples()[i%len(samples())]
			}
			want := made(kind, l...)
			if leastV > 0 || n < leastP || n > mostP {
				want = api.Pred{}
			}
			checkJoin(t, want, kind, l...)
		}
	}
}

func TestJoinOfFew(t *testing.T) {
	checkJoin(t, not(gt(3)), api.Not, gt(3))
	checkJoin(t, and(gt(1), eq(2)), api.And, gt(1), eq(2))
	checkJoin(t, or(gt(1), and(eq(2), eq(2)), eq(2)), api.Or, gt(1), and(eq(2), eq(2)), eq(2))
	checkJoin(t, and(eq(1), eq(1)), api.And, eq(1), eq(1))
	// These may have no values, and are of no predicates.
	checkJoin(t, of(api.Within), api.Within)
	checkJoin(t, of(api.Without), api.Without)
	checkJoin(t, api.Pred{}, api.Within, eq(1))
	checkJoin(t, api.Pred{}, api.Without, eq(1), eq(1))
	checkJoin(t, api.Pred{}, api.Eq)
	checkJoin(t, api.Pred{}, api.Eq, eq(1))
	checkJoin(t, api.Pred{}, api.Not)
	checkJoin(t, api.Pred{}, api.Not, eq(1), eq(2))
	checkJoin(t, api.Pred{}, api.And)
	checkJoin(t, api.Pred{}, api.And, eq(1))
	checkJoin(t, api.Pred{}, api.Or, eq(1))
	checkJoin(t, api.Pred{}, 0)
	checkJoin(t, api.Pred{}, 0, eq(1), eq(2))
	checkJoin(t, and(eq(1), neq(2)), api.And, []api.Pred{eq(1), neq(2)}...)
	checkJoin(t, of(api.Within), api.Within, []api.Pred{}...)
}

func TestJoinDepth(t *testing.T) {
	for _, f := range arounds() {
		for depth := 1; depth <= api.MaxDepth+2; depth++ {
			p := around(f, gt(1), depth-1)
			if depth < api.MaxDepth {
				checkJoin(t, not(p), api.Not, p)
				checkJoin(t, and(eq(1), p), api.And, eq(1), p)
				checkJoin(t, or(p, eq(1)), api.Or, p, eq(1))
				continue
			}
			checkJoin(t, api.Pred{}, api.Not, p)
			checkJoin(t, api.Pred{}, api.And, eq(1), p)
			checkJoin(t, api.Pred{}, api.Or, p, eq(1))
		}
	}
}

func TestJoinOfNone(t *testing.T) {
	for _, p := range wrong() {
		checkJoin(t, api.Pred{}, api.Not, p)
		checkJoin(t, api.Pred{}, api.And, p, p)
		checkJoin(t, api.Pred{}, api.And, eq(1), p)
		checkJoin(t, api.Pred{}, api.Or, p, eq(1))
		checkJoin(t, api.Pred{}, api.Or, append(slices.Repeat(preds(eq(1)), api.MaxItems-1), p)...)
	}
	for _, v := range noValues() {
		checkJoin(t, api.Pred{}, api.Not, of(api.Eq, v))
		checkJoin(t, api.Pred{}, api.And, eq(1), not(of(api.Within, num(1), v)))
		checkJoin(t, api.Pred{}, api.Or, of(api.Between, v, num(1)), eq(1))
	}
}
