package plan_test

import (
	"slices"
	"testing"

	"wayfarer/api"
	"wayfarer/plan"
)

// A step that has so many of something.
func TestCheckMaxArgs(t *testing.T) {
	for n, good := range map[int]bool{0: true, 1: true, 49: true, 50: true, 51: false, 52: false, 100: false, 306: false, 100000: false} {
		names, numbers := slices.Repeat([]string{"a"}, n), slices.Repeat([]int{1}, n)
		for _, op := range []int{api.OpOut, api.OpIn, api.OpBoth, api.OpOutE, api.OpInE, api.OpBothE, api.OpValues} {
			checkWhether(t, texts(op, names...), good)
		}
		for _, op := range []int{api.OpHasLabel, api.OpSelect} {
			checkWhether(t, texts(op, names...), good && n > 0)
		}
		checkWhether(t, nums(api.OpV, numbers...), good)
		checkWhether(t, nums(api.OpE, numbers...), good)
		checkWhether(t, nums(api.OpHasID, numbers...), good && n > 0)
		for _, op := range []int{api.OpAllOf, api.OpAnyOf, api.OpUnion, api.OpCoalesce} {
			checkWhether(t, subs(op, make([][]api.Step, n)...), good && n > 0)
			checkWhether(t, subs(op, slices.Repeat([][]api.Step{many(1)}, n)...), good && n > 0)
		}
		checkWhether(t, done(api.OpOrder, slices.Repeat([]api.By{down(byKey("k"))}, n)...), good)
		checkWhether(t, done(api.OpOrder, slices.Repeat([]api.By{byPlan(many(1)...)}, n)...), good)
		checkWhether(t, project(labels(n)), good && n > 0)
		checkWhether(t, project(labels(n), slices.Repeat([]api.By{byValue()}, n)...), good && n > 0)
		checkWhether(t, as(bare(api.OpID), names...), good)
	}
	most := slices.Repeat([]string{"a"}, api.MaxArgs)
	for _, x := range sound() {
		checkCheck(t, steps(as(x, most...)), api.OK)
		checkCheck(t, steps(as(x, append(most, "a")...)), api.ErrArg)
	}
}

// spread: so many steps, in plans within one another and side by side.
func spread(n int) []api.Step {
	inside := n / 4
	l := many(n - 3*inside)
	if inside == 0 {
		return l
	}
	l = append(l, subs(api.OpUnion, many(inside), nil), done(api.OpOrder, byPlan(many(inside)...), byKey("k")))
	return append(l, many(inside-2)...)
}

func TestCheckMaxSteps(t *testing.T) {
	for _, n := range []int{0, 1, 2, 3, 8, 50, api.MaxSteps - 1, api.MaxSteps} {
		checkCheck(t, many(n), api.OK)
		checkSize(t, many(n), 1, n)
	}
	for _, n := range []int{8, 100, api.MaxSteps - 1, api.MaxSteps} {
		checkCheck(t, spread(n), api.OK)
		checkSize(t, spread(n), 2, n)
	}
	for _, n := range []int{api.MaxSteps + 1, api.MaxSteps + 2, 2 * api.MaxSteps, 100000} {
		checkNoStep(t, where(many(n-1)...))
		checkCheck(t, many(n), api.ErrArg)
		checkCheck(t, spread(n), api.ErrArg)
		checkSize(t, spread(n), 2, api.MaxSteps+1)
	}
	// Step by step, be they in T or in By, at whatever level.
	for _, f := range arounds() {
		own := plan.Steps(f(nil))
		for _, times := range []int{1, 2, deepest - 1} {
			rest := api.MaxSteps - times*own
			checkCheck(t, around(f, many(rest), times), api.OK)
			checkCheck(t, around(f, many(rest+1), times), api.ErrArg)
			checkCheck(t, append(around(f, many(rest), times), bare(api.OpID)), api.ErrArg)
			checkCheck(t, append(many(1), around(f, many(rest-1), times)...), api.OK)
		}
	}
	few := slices.Repeat([][]api.Step{many(1)}, api.MaxArgs)
	checkCheck(t, append(slices.Repeat(steps(subs(api.OpUnion, few...)), 7), many(api.MaxSteps-7*51)...), api.OK)
	checkCheck(t, slices.Repeat(steps(subs(api.OpUnion, few...)), 8), api.ErrArg)
}

func TestCheckMaxNest(t *testing.T) {
	checkCheck(t, tower(deepest), api.OK)
	checkCheck(t, tower(deepest+1), api.ErrArg)
	for _, f := range arounds() {
		for _, last := range [][]api.Step{nil, many(1), many(5), steps(bare(api.OpID), has("k", eq(1)))} {
			for height := 1; height <= deepest+4; height++ {
				want := api.OK
				if height > deepest {
					want = api.ErrArg
				}
				l := around(f, last, height-1)
				checkCheck(t, l, want)
				checkCheck(t, append(many(2), l...), want)
				checkCheck(t, append(slices.Clone(l), many(2)...), want)
				checkSize(t, l, min(height, looked), plainSteps(l, 1))
			}
		}
		// What is wrong at the deepest place is wrong.
		checkCheck(t, around(f, steps(bare(0)), deepest-1), api.ErrArg)
		checkCheck(t, around(f, steps(texts(api.OpOut, "9")), deepest-1), api.ErrArg)
		checkCheck(t, around(f, many(1), 3000), api.ErrArg)
	}
	checkCheck(t, steps(subs(api.OpUnion, many(1), tower(deepest-1), many(1))), api.OK)
	checkCheck(t, steps(subs(api.OpUnion, many(1), tower(deepest), many(1))), api.ErrArg)
	checkCheck(t, steps(done(api.OpOrder, byKey("k"), byPlan(tower(deepest-1)...), byValue())), api.OK)
	checkCheck(t, steps(done(api.OpOrder, byKey("k"), byPlan(tower(deepest)...), byValue())), api.ErrArg)
}

// What is in itself is no plan, however wide it is.
func TestCheckOfWhatIsInItself(t *testing.T) {
	for _, size := range []int{1, 2, api.MaxSteps, 1000} {
		for _, wide := range []int{0, 1, 2, api.MaxArgs, 1000} {
			checkCheck(t, inItself(size, 1, wide), api.ErrArg)
			checkCheck(t, inItself(size, wide, 1), api.ErrArg)
			checkCheck(t, append(many(3), inItself(size, 1+wide, 0)...), api.ErrArg)
		}
	}
}

// Plans that are handed in for many places count at each of them.
func TestCheckOfSharedPlans(t *testing.T) {
	for _, wide := range []int{1, 2, 3, 7, api.MaxArgs} {
		in, all := 1, 1
		for times := range deepest + 3 {
			want := api.OK
			if all > api.MaxSteps || times >= deepest {
				want = api.ErrArg
			}
			checkCheck(t, shared(many(1), times, wide, 0), want)
			in = min(in*wide, api.MaxSteps+1)
			all += in
		}
	}
	// Plans of no steps have none, and are below what is in them.
	checkCheck(t, shared(nil, 2, api.MaxArgs, 0), api.OK)
	checkCheck(t, shared(nil, 3, 19, 0), api.OK)
	checkCheck(t, shared(nil, 3, 20, 0), api.ErrArg)
	checkCheck(t, shared(nil, 2, api.MaxArgs+1, 0), api.ErrArg)
	checkCheck(t, shared(nil, 9, api.MaxArgs, api.MaxArgs), api.ErrArg)
}
