package pred_test

import (
	"math/rand"
	"testing"

	"wayfarer/api"
	"wayfarer/pred"
)

func TestNegate(t *testing.T) {
	for _, x := range []struct{ p, want api.Pred }{
		{eq(1), neq(1)},
		{neq(1), eq(1)},
		{of(api.Lt, num(1)), not(of(api.Lt, num(1)))},
		{of(api.Lte, num(1)), not(of(api.Lte, num(1)))},
		{gt(1), not(gt(1))},
		{of(api.Gte, num(1)), not(of(api.Gte, num(1)))},
		{of(api.Between, num(1), num(2)), not(of(api.Between, num(1), num(2)))},
		{of(api.Inside, num(1), num(2)), not(of(api.Inside, num(1), num(2)))},
		{of(api.Outside, num(1), num(2)), not(of(api.Outside, num(1), num(2)))},
		{of(api.Within, num(2), num(1), num(2)), of(api.Without, num(2), num(1), num(2))},
		{of(api.Without, num(2), word("a")), of(api.Within, num(2), word("a"))},
		{of(api.Within), of(api.Without)},
		{of(api.Without), of(api.Within)},
		{not(eq(1)), eq(1)},
		{not(gt(1)), gt(1)},
		{not(not(eq(1))), not(eq(1))},
		{not(and(eq(1), gt(2))), and(eq(1), gt(2))},
		{and(eq(1), gt(2)), or(neq(1), not(gt(2)))},
		{or(eq(1), gt(2)), and(neq(1), not(gt(2)))},
		{and(gt(1), not(gt(2)), eq(3)), or(not(gt(1)), gt(2), neq(3))},
		{or(not(not(eq(1))), of(api.Within, num(1))), and(not(eq(1)), of(api.Without, num(1)))},
		{and(or(eq(1), neq(2)), and(gt(3), not(eq(4)))), or(and(neq(1), eq(2)), or(not(gt(3)), eq(4)))},
		{or(and(eq(1), eq(1)), not(or(eq(1), eq(2)))), and(or(neq(1), neq(1)), or(eq(1), eq(2)))},
		{of(api.Eq, list(num(1), list(word("a")))), of(api.Neq, list(num(1), list(word("a"))))},
	} {
		checkNegate(t, x.p, x.want)
	}
	for kind := api.Eq; kind <= api.Gte; kind++ {
		for _, v := range rising() {
			if kind > api.Neq {
				checkNegate(t, of(kind, v), not(of(kind, v)))
			}
		}
	}
}

func TestNegateMany(t *testing.T) {
	all := numbers(api.MaxItems)
	checkNegate(t, of(api.Within, all...), of(api.Without, all...))
	checkNegate(t, of(api.Without, all...), of(api.Within, all...))
	var some, negated []api.Pred
	for i := range api.MaxItems {
		some, negated = append(some, eq(i)), append(negated, neq(i))
	}
	checkNegate(t, and(some...), or(negated...))
	checkNegate(t, or(some...), and(negated...))
	checkNegate(t, not(or(some...)), or(some...))
}

// checkNegationHolds: negated it holds just where p does not, and negated twice
// where p does.
func checkNegationHolds(t *testing.T, p api.Pred, l []api.Value) {
	t.Helper()
	n := pred.Negate(p)
	twice := pred.Negate(n)
	checkCheck(t, n, api.OK)
	checkCheck(t, twice, api.OK)
	for _, v := range l {
		holds := pred.Test(p, v)
		checkTest(t, n, v, !holds)
		checkTest(t, twice, v, holds)
		if deepest(p) < api.MaxDepth {
			checkTest(t, not(p), v, !holds)
		}
	}
}

func TestNegationHolds(t *testing.T) {
	for _, p := range samples() {
		checkNegationHolds(t, p, rising())
		for _, f := range arounds() {
			checkNegationHolds(t, f(p), rising())
			checkNegationHolds(t, f(f(p)), rising())
		}
	}
	for _, v := range rising() {
		for kind := api.Eq; kind <= api.Gte; kind++ {
			checkNegationHolds(t, of(kind, v), rising())
		}
	}
	r := rand.New(rand.NewSource(10))
	for range 5000 {
		checkNegationHolds(t, anyPred(r, 1+r.Intn(6)), someValues())
	}
}

// Every predicate of two within one, over a few.
func TestNegationOfAllSmall(t *testing.T) {
	for _, a := range simple() {
		for _, b := range simple() {
			for _, p := range preds(and(a, b), or(a, b), not(and(a, b)), and(not(a), or(a, b))) {
				checkNegationHolds(t, p, someValues())
			}
		}
	}
}

func TestNegateDeep(t *testing.T) {
	checkNegate(t, around(not, gt(1), api.MaxDepth-1), around(not, gt(1), api.MaxDepth-2))
	ands := func(p api.Pred) api.Pred { return and(eq(2), p) }
	ors := func(p api.Pred) api.Pred { return or(neq(2), p) }
	for _, x := range []struct{ p, want api.Pred }{
		{eq(1), neq(1)},
		{of(api.Within, num(1), list(num(2))), of(api.Without, num(1), list(num(2)))},
	} {
		p, want := around(ands, x.p, api.MaxDepth-1), around(ors, x.want, api.MaxDepth-1)
		checkNegate(t, p, want)
		checkNegate(t, want, p)
		checkNegationHolds(t, p, someValues())
		checkNone(t, ands(p))
		checkNone(t, ors(want))
	}
	checkNegationHolds(t, around(ands, gt(1), api.MaxDepth-2), someValues())
}

// Around what stands at MaxDepth a Not may come: then all of it is there, one
// deeper than a predicate is.
func TestNegateToOneDeeper(t *testing.T) {
	ands := func(p api.Pred) api.Pred { return and(p, eq(2)) }
	ors := func(p api.Pred) api.Pred { return or(p, neq(2)) }
	for _, last := range preds(gt(1), of(api.Lte, list(num(1))), of(api.Outside, num(1), num(2))) {
		p, want := around(ands, last, api.MaxDepth-1), around(ors, not(last), api.MaxDepth-1)
		checkCheck(t, p, api.OK)
		checkNegate(t, p, want)
		checkNone(t, pred.Negate(p))
		p, want = around(ors, last, api.MaxDepth-1), around(ands, not(last), api.MaxDepth-1)
		checkNegate(t, p, want)
		checkNone(t, pred.Negate(p))
	}
}

func TestNegateNone(t *testing.T) {
	for _, p := range wrong() {
		if got := pred.Negate(p); !nothing(got) {
			t.Errorf("Negate(%s) = %s", show(p), show(got))
		}
	}
	for _, v := range noValues() {
		for _, p := range preds(of(api.Eq, v), of(api.Gt, v), of(api.Within, num(1), v), and(eq(1), not(of(api.Lt, v))), not(of(api.Neq, v))) {
			if got := pred.Negate(p); !nothing(got) {
				t.Errorf("Negate(%s) = %s", show(p), show(got))
			}
		}
	}
}
