package plan_test

import (
	"slices"
	"testing"

	"wayfarer/api"
	"wayfarer/plan"
)

func checkUses(t *testing.T, l []api.Step, want bool, ops ...int) {
	t.Helper()
	if plan.Uses(l, ops...) != want {
		t.Errorf("Uses(%s, %v) is not %v", show(l), ops, want)
	}
}

func checkFree(t *testing.T, l []api.Step, want bool) {
	t.Helper()
	if plan.Free(l) != want {
		t.Errorf("Free(%s) is not %v", show(l), want)
	}
}

// anyStep: is there such a step in l, or in whichever plan in it?
func anyStep(l []api.Step, such func(api.Step) bool) bool {
	inner := func(p []api.Step) bool { return anyStep(p, such) }
	by := func(b api.By) bool { return anyStep(b.T, such) }
	return slices.ContainsFunc(l, func(x api.Step) bool {
		return such(x) || slices.ContainsFunc(x.T, inner) || slices.ContainsFunc(x.By, by)
	})
}

func plainUses(l []api.Step, ops []int) bool {
	return anyStep(l, func(x api.Step) bool { return slices.Contains(ops, x.Op) })
}

func plainFree(l []api.Step) bool {
	return !plainUses(l, []int{38, 26, 27, 39}) && !anyStep(l, func(x api.Step) bool { return len(x.As) > 0 })
}

func TestUses(t *testing.T) {
	l := steps(where(bare(api.OpOut)))
	checkSize(t, l, 2, 2)
	checkUses(t, l, true, api.OpOut)
	checkUses(t, l, true, api.OpWhere)
	checkUses(t, l, false, api.OpIn)
	checkUses(t, l, false)
	checkUses(t, l, true, api.OpIn, api.OpOut)
	checkUses(t, l, true, api.OpOut, api.OpIn)
	checkUses(t, l, true, api.OpIn, -1, api.OpOut, api.OpOut, 99)
	checkUses(t, l, false, api.OpIn, 0, 99, api.MinInt)
	checkUses(t, nil, false, api.OpV)
	checkUses(t, nil, false)
	var all []int
	for op := api.OpV; op <= api.OpBarrier; op++ {
		all = append(all, op)
	}
	checkUses(t, nil, false, all...)
	checkUses(t, steps(where()), true, all...)
	for _, x := range sound() {
		for op := -1; op <= 52; op++ {
			checkUses(t, steps(x), plainUses(steps(x), []int{op}), op)
		}
		checkUses(t, steps(x), false)
		checkUses(t, steps(x), true, all...)
	}
	// An Op that is none is one that a step may be handed in with.
	checkUses(t, steps(bare(-3)), true, -3)
	checkUses(t, steps(bare(0)), true, 0)
}

// towers: l within plans of all sorts, and deeper than anything else looks.
func towers(l []api.Step) [][]api.Step {
	var all [][]api.Step
	for _, f := range arounds() {
		for _, times := range []int{0, 1, 2, deepest, looked, looked + 1, 100, 3000} {
			all = append(all, around(f, l, times), append(many(2), around(f, l, times)...))
		}
	}
	odd := func(l []api.Step) []api.Step {
		return steps(done(api.OpID, api.By{}, api.By{Kind: api.ByKey, Key: "k", T: l}), bare(0))
	}
	return append(all, odd(l), around(odd, l, 50))
}

// What is in a plan is in it, wherever.
func TestUsesWherever(t *testing.T) {
	for _, l := range towers(steps(bare(api.OpV), bare(api.OpSum))) {
		checkUses(t, l, true, api.OpSum)
		checkUses(t, l, true, api.OpMax, api.OpSum)
		checkUses(t, l, false, api.OpMax)
		checkUses(t, l, false)
	}
}

func TestFree(t *testing.T) {
	checkFree(t, nil, true)
	checkFree(t, steps(where(bare(api.OpOut))), true)
	for _, x := range sound() {
		bound := x.Op == api.OpTrail || x.Op == api.OpSimple || x.Op == api.OpCyclic || x.Op == api.OpSelect
		checkFree(t, steps(x), !bound)
		checkFree(t, steps(bare(api.OpV), x), !bound)
		checkFree(t, steps(as(x, "a")), false)
		checkFree(t, steps(bare(api.OpV), as(x, "a", "b"), bare(api.OpID)), false)
	}
	// No name is left out, be it one or not.
	checkFree(t, steps(as(bare(99), "")), false)
	checkFree(t, steps(bare(0), bare(-1), bare(99)), true)
}

func TestFreeWherever(t *testing.T) {
	plain := []int{1, 3, 5, 6, 7}
	for _, x := range steps(bare(api.OpTrail), bare(api.OpSimple), bare(api.OpCyclic), texts(api.OpSelect, "a"), as(bare(api.OpID), "a")) {
		for _, l := range towers(steps(bare(api.OpV), x)) {
			checkFree(t, l, false)
		}
	}
	for _, i := range plain {
		for _, times := range []int{0, 1, looked, 3000} {
			checkFree(t, around(arounds()[i], many(2), times), true)
		}
	}
}

// What is in itself, or handed in for many places, is gone through once.
func TestUsesAndFreeEnd(t *testing.T) {
	for _, size := range []int{1, 2, 1000} {
		for _, wide := range []int{1, api.MaxArgs, 1000} {
			l := inItself(size, wide, 1)
			checkUses(t, l, false, api.OpSum)
			checkUses(t, l, true, api.OpUnion)
			checkFree(t, l, true)
			l[size-1].T = append(l[size-1].T, steps(as(bare(api.OpSum), "a")))
			checkUses(t, l, true, api.OpSum)
			checkFree(t, l, false)
		}
	}
	for _, times := range []int{1, 10, 1000} {
		l := shared(steps(bare(api.OpSum)), times, api.MaxArgs, api.MaxArgs)
		checkUses(t, l, false, api.OpMax)
		checkUses(t, l, true, api.OpSum)
		checkFree(t, l, true)
	}
	// A row that is a part of another one is a plan of its own.
	row := steps(bare(api.OpID), bare(api.OpMax), as(bare(api.OpID), "a"))
	for i := range 4 {
		checkUses(t, steps(subs(api.OpUnion, row[:1], row[:i])), i >= 2, api.OpMax)
		checkFree(t, steps(subs(api.OpUnion, row[:1], row[:i])), i < 3)
	}
	const times = 300000
	l := around(arounds()[0], steps(as(bare(api.OpSum), "a")), times)
	checkUses(t, l, true, api.OpSum)
	checkUses(t, l, false, api.OpMax)
	checkFree(t, l, false)
}
