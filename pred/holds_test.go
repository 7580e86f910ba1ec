package pred_test

import (
	"math/rand"
	"slices"
	"testing"

	"wayfarer/api"
	"wayfarer/pred"
	"wayfarer/value"
)

// The document's examples.
func TestExamples(t *testing.T) {
	checkTest(t, gt(3), num(4), true)
	checkTest(t, gt(3), word("x"), false)
	checkTest(t, not(gt(3)), word("x"), true)
	checkNegate(t, and(eq(1), gt(2)), or(neq(1), not(gt(2))))
}

// Each value against each: which is less is told by where they stand in a row
// that rises.
func TestOneValue(t *testing.T) {
	all := rising()
	for i, v := range all {
		for k, x := range all {
			one := v.Kind == x.Kind
			checkTest(t, of(api.Eq, x), v, i == k)
			checkTest(t, of(api.Neq, x), v, i != k)
			checkTest(t, of(api.Lt, x), v, one && i < k)
			checkTest(t, of(api.Lte, x), v, one && i <= k)
			checkTest(t, of(api.Gt, x), v, one && i > k)
			checkTest(t, of(api.Gte, x), v, one && i >= k)
			checkTest(t, of(api.Within, x), v, i == k)
			checkTest(t, of(api.Without, x), v, i != k)
		}
	}
}

// Each value against each two, whichever of them is greater, or of another
// Kind.
func TestTwoValues(t *testing.T) {
	all := rising()
	for i, v := range all {
		for a, first := range all {
			for b, second := range all {
				one := v.Kind == first.Kind && v.Kind == second.Kind
				checkTest(t, of(api.Between, first, second), v, one && i >= a && i < b)
				checkTest(t, of(api.Inside, first, second), v, one && i > a && i < b)
				checkTest(t, of(api.Outside, first, second), v, one && (i < a || i > b))
				checkTest(t, of(api.Within, first, second), v, i == a || i == b)
				checkTest(t, of(api.Without, first, second), v, i != a && i != b)
			}
		}
	}
}

func TestNumbers(t *testing.T) {
	least, greatest := num(api.MinInt), num(api.MaxInt)
	for _, x := range []struct {
		p    api.Pred
		v    api.Value
		want bool
	}{
		{of(api.Lt, least), least, false},
		{of(api.Lt, greatest), least, true},
		{of(api.Gt, greatest), greatest, false},
		{of(api.Gt, least), greatest, true},
		{of(api.Lte, least), least, true},
		{of(api.Gte, greatest), greatest, true},
		{of(api.Gte, greatest), num(api.MaxInt - 1), false},
		{of(api.Between, least, greatest), least, true},
		{of(api.Between, least, greatest), greatest, false},
		{of(api.Between, greatest, least), num(0), false},
		{of(api.Inside, least, greatest), least, false},
		{of(api.Inside, least, greatest), num(api.MinInt + 1), true},
		{of(api.Inside, least, greatest), greatest, false},
		{of(api.Outside, least, greatest), num(0), false},
		{of(api.Outside, greatest, least), num(0), true},
		{of(api.Outside, least, least), least, false},
		{of(api.Outside, least, least), greatest, true},
		{of(api.Between, num(1), num(1)), num(1), false},
		{of(api.Inside, num(1), num(2)), num(1), false},
	} {
		checkTest(t, x.p, x.v, x.want)
	}
}

func TestWithin(t *testing.T) {
	even := func(most int) []api.Value {
		var l []api.Value
		for i := range most {
			l = append(l, num(2*i))
		}
		return l
	}
	full := even(api.MaxItems)
	for i := range 2*api.MaxItems + 2 {
		want := i%2 == 0 && i < 2*api.MaxItems
		checkTest(t, of(api.Within, full...), num(i), want)
		checkTest(t, of(api.Without, full...), num(i), !want)
	}
	checkNone(t, of(api.Within, even(api.MaxItems+1)...))
	checkNone(t, of(api.Without, even(api.MaxItems+1)...))
	for _, v := range rising() {
		checkTest(t, of(api.Within), v, false)
		checkTest(t, of(api.Without), v, true)
		checkTest(t, of(api.Within, rising()...), v, true)
		checkTest(t, of(api.Without, rising()...), v, false)
		checkTest(t, of(api.Within, v, v, v), v, true)
		checkTest(t, of(api.Without, v, v), v, false)
		checkTest(t, of(api.Within, list(v)), v, false)
	}
}

// always: one that holds of all, or of none.
func always(holds bool) api.Pred {
	if holds {
		return of(api.Without)
	}
	return of(api.Within)
}

func TestNotAndOr(t *testing.T) {
	for _, v := range rising() {
		for _, a := range []bool{false, true} {
			checkTest(t, not(always(a)), v, !a)
			checkTest(t, not(not(always(a))), v, a)
			for _, b := range []bool{false, true} {
				checkTest(t, and(always(a), always(b)), v, a && b)
				checkTest(t, or(always(a), always(b)), v, a || b)
				checkTest(t, not(and(always(a), not(always(b)))), v, !(a && !b))
				for _, c := range []bool{false, true} {
					checkTest(t, and(always(a), always(b), always(c)), v, a && b && c)
					checkTest(t, or(always(a), always(b), always(c)), v, a || b || c)
					checkTest(t, or(and(always(a), always(b)), always(c)), v, a && b || c)
					checkTest(t, and(or(always(a), always(b)), always(c)), v, (a || b) && c)
				}
			}
		}
	}
}

func TestManyPredicates(t *testing.T) {
	for _, place := range []int{0, 1, 500, api.MaxItems - 1} {
		l := slices.Repeat(preds(gt(3)), api.MaxItems)
		l[place] = gt(5)
		checkTest(t, and(l...), num(5), false)
		checkTest(t, and(l...), num(6), true)
		checkTest(t, or(l...), num(4), true)
		checkTest(t, or(l...), num(3), false)
		l[place] = eq(0)
		checkTest(t, or(l...), num(0), true)
		checkTest(t, or(l...), num(1), false)
		checkNone(t, and(append(l, gt(3))...))
		checkNone(t, or(append(l, gt(3))...))
	}
}

// Whether it holds hangs on what is at the deepest place.
func TestDeepPredicates(t *testing.T) {
	for depth := 1; depth <= api.MaxDepth; depth++ {
		odd := depth%2 == 0 // so many Nots, one less than depth
		checkTest(t, around(not, gt(1), depth-1), num(2), !odd)
		checkTest(t, around(not, gt(1), depth-1), num(1), odd)
		ands := around(func(p api.Pred) api.Pred { return and(gt(0), p) }, gt(1), depth-1)
		checkTest(t, ands, num(2), true)
		checkTest(t, ands, num(1), false)
		ors := around(func(p api.Pred) api.Pred { return or(p, gt(8)) }, eq(1), depth-1)
		checkTest(t, ors, num(1), true)
		checkTest(t, ors, num(2), false)
	}
	for _, f := range arounds() {
		checkNone(t, around(f, eq(1), api.MaxDepth))
		checkNone(t, around(f, always(true), api.MaxDepth))
	}
}

// What is no predicate does not hold, even if what is first in it would.
func TestWrongPredicatesDoNotHold(t *testing.T) {
	for _, p := range wrong() {
		for _, v := range rising() {
			checkTest(t, p, v, false)
			checkTest(t, not(p), v, false)
			checkTest(t, or(always(true), p), v, false)
			checkTest(t, not(or(p, always(true))), v, false)
		}
	}
	for _, v := range noValues() {
		checkTest(t, of(api.Eq, v), v, false)
		checkTest(t, of(api.Neq, v), num(1), false)
		checkTest(t, of(api.Within, num(1), v), num(1), false)
		checkTest(t, of(api.Without, v), num(1), false)
		checkTest(t, of(api.Outside, num(5), v), num(1), false)
	}
}

// A predicate holds of what is no value as value.Same and value.Cmp tell it.
func TestOfWhatIsNoValue(t *testing.T) {
	for _, v := range noValues() {
		for _, x := range rising() {
			checkTest(t, of(api.Eq, x), v, false)
			checkTest(t, of(api.Neq, x), v, true)
			checkTest(t, of(api.Within, x, num(1)), v, false)
			checkTest(t, of(api.Without, x), v, true)
			checkTest(t, not(of(api.Eq, x)), v, true)
			checkTest(t, of(api.Lt, x), v, v.Kind == x.Kind && value.Cmp(v, x) < 0)
			checkTest(t, of(api.Gte, x), v, v.Kind == x.Kind && value.Cmp(v, x) > 0)
		}
	}
	odd := api.Value{Kind: api.Int, N: 1, S: "a"}
	checkTest(t, gt(1), odd, true)
	checkTest(t, of(api.Lt, num(2)), odd, true)
}

// plainly: does p, which is a predicate, hold of v, by the plainest reading of
// the document?
func plainly(p api.Pred, v api.Value) bool {
	count := 0
	for _, x := range p.P {
		if plainly(x, v) {
			count++
		}
	}
	for _, x := range p.V {
		if value.Cmp(x, v) == 0 {
			count++
		}
	}
	switch p.Kind {
	case api.Eq, api.Within, api.Or:
		return count > 0
	case api.Neq, api.Without, api.Not:
		return count == 0
	case api.And:
		return count == len(p.P)
	}
	for _, x := range p.V {
		if x.Kind != v.Kind {
			return false
		}
	}
	return plainlyStands(p.Kind, value.Cmp(v, p.V[0]), value.Cmp(v, p.V[len(p.V)-1]))
}

func plainlyStands(kind, first, second int) bool {
	return map[int]bool{
		api.Lt: first == -1, api.Lte: first != 1, api.Gt: first == 1, api.Gte: first != -1,
		api.Between: first != -1 && second == -1, api.Inside: first == 1 && second == -1, api.Outside: first == -1 || second == 1,
	}[kind]
}

// anyPred: a predicate, at most so deep.
func anyPred(r *rand.Rand, deep int) api.Pred {
	if deep == 1 || r.Intn(3) == 0 {
		l := simple()
		p := l[r.Intn(len(l))]
		for i := range p.V {
			p.V[i] = someValues()[r.Intn(len(someValues()))]
		}
		return p
	}
	l := preds(anyPred(r, deep-1))
	kind := api.Not + r.Intn(3)
	for kind != api.Not && len(l) < 2+r.Intn(2) {
		l = append(l, anyPred(r, deep-1))
	}
	return made(kind, l...)
}

func someValues() []api.Value {
	return vals(num(-1), num(0), num(1), num(2), num(3), word("a"), word("b"), list(), list(num(1)))
}

func TestAnyPredicates(t *testing.T) {
	r := rand.New(rand.NewSource(9))
	for range 20000 {
		p := anyPred(r, 1+r.Intn(6))
		checkCheck(t, p, api.OK)
		for _, v := range someValues() {
			checkTest(t, p, v, plainly(p, v))
		}
	}
}

// It is the same each time.
func TestAgain(t *testing.T) {
	for _, p := range samples() {
		for _, v := range rising() {
			if pred.Test(p, v) != pred.Test(p, v) || pred.Check(p) != pred.Check(p) {
				t.Error(show(p), showValue(v))
			}
		}
	}
}
