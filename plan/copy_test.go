package plan_test

import (
	"testing"

	"wayfarer/api"
	"wayfarer/plan"
	"wayfarer/pred"
	"wayfarer/value"
)

func TestCopy(t *testing.T) {
	checkCopy(t, nil, nil)
	for _, l := range different() {
		checkCopy(t, l, l)
		for _, f := range arounds() {
			deep := around(f, l, looked-plainNest(l))
			checkCopy(t, deep, deep)
			checkSame(t, deep, plan.Copy(deep), true)
		}
	}
	// What is no plan has a copy, too.
	for _, v := range append(noValues()[:18:18], values()...) {
		l := steps(api.Step{Op: 77, S: []string{""}, N: []int{-1}, V: v, P: of(-1, v), T: [][]api.Step{many(2)}, By: []api.By{{Kind: 9, Key: "9", T: many(1), Desc: true}}, As: []string{""}})
		checkCopy(t, l, l)
	}
	checkCopy(t, many(api.MaxSteps+5), many(api.MaxSteps+5))
}

// hollow: the steps of l, without what is in plans that they have.
func hollow(l []api.Step) []api.Step {
	l = plan.Copy(l)
	for _, x := range l {
		for i := range x.T {
			x.T[i] = nil
		}
		for i := range x.By {
			x.By[i].T = nil
		}
	}
	return l
}

// A plan within more than MaxNest and 1 of those within l has no steps.
func TestCopyDeep(t *testing.T) {
	for _, f := range arounds() {
		for _, last := range [][]api.Step{nil, many(1), many(3), steps(where(bare(api.OpID))), steps(api.Step{}), tower(500)} {
			cut := around(f, hollow(f(last)), looked-1)
			checkCopy(t, around(f, last, looked), cut)
			checkCopy(t, around(f, last, looked+1), around(f, hollow(f(nil)), looked-1))
			checkCopy(t, around(f, last, looked+5), around(f, hollow(f(nil)), looked-1))
			checkCopy(t, around(f, last, looked-1), around(f, hollow(last), looked-1))
		}
	}
	// How many plans there were, and all else that stands beside them, is there.
	wide := func(l []api.Step) []api.Step {
		return steps(api.Step{
			Op: 77, S: []string{"s"}, N: []int{1}, V: num(2), P: eq(3), T: [][]api.Step{nil, l, nil},
			By: []api.By{byKey("k"), down(byPlan(l...)), {Kind: 9, T: l}}, As: []string{"a"},
		}, bare(api.OpID))
	}
	checkCopy(t, around(wide, many(2), 3), around(wide, many(2), 3))
	l := around(wide, many(2), 1)
	for range looked - 1 {
		l = steps(where(l...))
	}
	want := around(arounds()[0], around(wide, nil, 1), looked-1)
	checkCopy(t, l, want)
}

// Predicates and values are as pred.Copy and value.Copy make them.
func TestCopyDeepValuesAndPreds(t *testing.T) {
	for _, v := range []api.Value{within(num(1), api.MaxDepth-1), within(num(1), api.MaxDepth+1), within(num(1), 500), endlessList()} {
		checkCopy(t, steps(constant(v)), steps(constant(value.Copy(v))))
	}
	for _, p := range []api.Pred{nots(eq(1), api.MaxDepth-1), nots(eq(1), api.MaxDepth), nots(eq(1), 500), endlessPred(api.Not, 1), of(api.Eq, endlessList())} {
		checkCopy(t, steps(is(p)), steps(is(pred.Copy(p))))
	}
}

// What is in itself has a copy that ends.
func TestCopyOfWhatIsInItself(t *testing.T) {
	once := func(l []api.Step) []api.Step { return steps(subs(api.OpUnion, l)) }
	checkCopy(t, inItself(1, 1, 0), around(once, nil, looked))
	both := func(l []api.Step) []api.Step {
		return steps(api.Step{Op: api.OpUnion, T: [][]api.Step{l}, By: []api.By{byPlan(l...)}})
	}
	checkCopy(t, inItself(1, 1, 1), around(both, nil, looked))
	if l := plan.Copy(inItself(2, 1, 0)); plainNest(l) != looked+1 || len(l) != 2 || plainSteps(l, 1) != 1<<(looked+1)-2 {
		t.Error(show(l))
	}
}
