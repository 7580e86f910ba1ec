package pred_test

import (
	"slices"
	"testing"

	"wayfarer/api"
	"wayfarer/pred"
	"wayfarer/value"
)

func TestCopy(t *testing.T) {
	for _, p := range samples() {
		checkCopy(t, p, p)
		for _, f := range arounds() {
			checkCopy(t, f(p), f(p))
			checkCopy(t, around(f, eq(1), api.MaxDepth-1), around(f, eq(1), api.MaxDepth-1))
		}
	}
	// What is no predicate has a copy, too.
	for _, p := range []api.Pred{
		{}, {Kind: -7}, {Kind: api.MaxInt}, of(api.Eq), made(api.Eq, eq(1)), of(api.Not, num(1)), and(), and(eq(1)), {Kind: 15, V: vals(num(1), word("a")), P: preds(eq(1), api.Pred{})},
		of(api.Within, numbers(api.MaxItems+5)...), and(slices.Repeat(preds(gt(1)), api.MaxItems+5)...), of(api.Eq, api.Value{Kind: 9, N: 3, S: "x"}),
	} {
		checkCopy(t, p, p)
		checkCopy(t, not(p), not(p))
	}
}

// bare: p, with the kinds alone of what is in it.
func bare(p api.Pred) api.Pred {
	l := make([]api.Pred, len(p.P))
	for i, x := range p.P {
		l[i] = api.Pred{Kind: x.Kind}
	}
	return api.Pred{Kind: p.Kind, V: p.V, P: l}
}

// What stands below MaxDepth has its kind, and nothing in it.
func TestCopyDeep(t *testing.T) {
	for _, last := range append(samples(), api.Pred{}, api.Pred{Kind: 15, V: vals(num(1)), P: preds(eq(1))}) {
		for _, f := range arounds() {
			whole := around(f, last, api.MaxDepth-deepest(last))
			checkCopy(t, whole, whole)
			for _, more := range []int{0, 1, 2, 7, 500} {
				innermost := f(around(f, last, more))
				checkCopy(t, around(f, innermost, api.MaxDepth-1), around(f, bare(innermost), api.MaxDepth-1))
			}
		}
	}
	checkCopy(t, around(not, eq(1), api.MaxDepth), around(not, api.Pred{Kind: api.Eq}, api.MaxDepth))
	checkCopy(t, around(not, eq(1), api.MaxDepth-1), around(not, eq(1), api.MaxDepth-1))
	// A value at MaxDepth is there whole, however deep it is itself.
	deep := of(api.Within, within(num(1), api.MaxDepth-1), num(1))
	checkCopy(t, around(not, deep, api.MaxDepth-1), around(not, deep, api.MaxDepth-1))
}

// What is in itself has a copy that ends.
func TestCopyOfWhatIsInItself(t *testing.T) {
	checkCopy(t, inItself(api.Not, 1), around(not, made(api.Not), api.MaxDepth))
	checkCopy(t, inItself(77, 1), around(func(p api.Pred) api.Pred { return made(77, p) }, made(77), api.MaxDepth))
	two := around(func(p api.Pred) api.Pred { return and(p, p) }, and(), api.MaxDepth)
	checkCopy(t, inItself(api.And, 2), two)
	// A value that lies within itself is as value.Copy makes it.
	checkCopy(t, of(api.Eq, endless(1)), of(api.Eq, within(list(), api.MaxDepth)))
	v := within(num(1), api.MaxDepth+3)
	got := pred.Copy(around(not, of(api.Eq, v), 5))
	if last := around(not, of(api.Eq, value.Copy(v)), 5); !alike(got, last) {
		t.Error("a value that is too deep:", show(got))
	}
}
