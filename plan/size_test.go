package plan_test

import (
	"math/rand"
	"slices"
	"testing"

	"wayfarer/api"
	"wayfarer/plan"
)

func TestStepsAndNest(t *testing.T) {
	checkSize(t, nil, 1, 0)
	checkSize(t, many(1), 1, 1)
	checkSize(t, many(5), 1, 5)
	checkSize(t, steps(where(bare(api.OpOut))), 2, 2)
	checkSize(t, steps(where()), 2, 1)
	checkSize(t, steps(subs(api.OpUnion, nil, nil, nil)), 2, 1)
	checkSize(t, steps(bare(api.OpV), subs(api.OpChoose, many(2), tower(3), nil), bare(api.OpCount)), 4, 8)
	checkSize(t, steps(subs(api.OpUnion, tower(3), many(2)), bare(api.OpCount), where(many(4)...)), 4, 12)
	checkSize(t, steps(repeat(-1, 0, many(1), tower(2))), 3, 4)
	checkSize(t, steps(as(has("k", nots(eq(1), 5)), "a"), constant(within(num(1), 5))), 1, 2)
	checkSize(t, steps(done(api.OpOrder, byPlan(many(2)...), byPlan(tower(3)...), byPlan(many(1)...))), 4, 7)
	checkSize(t, steps(where(done(api.OpGroup, byKey("k"), byPlan(where(many(1)...))))), 4, 4)
}

// Who is done by a plan of no steps has a plan in it; who is done by nothing
// else, or by a key, has none.
func TestNestOfBys(t *testing.T) {
	checkSize(t, steps(done(api.OpOrder, byValue(), byKey("k"))), 1, 1)
	checkSize(t, steps(done(api.OpOrder, byValue(), byPlan())), 2, 1)
	checkSize(t, steps(done(api.OpOrder, byPlan(many(1)...))), 2, 2)
}

// Steps and Nest are of any steps, be they a plan or not.
func TestStepsAndNestOfNoPlan(t *testing.T) {
	checkSize(t, steps(api.Step{}), 1, 1)
	checkSize(t, steps(subs(-7, many(1)), subs(api.OpCount, nil, tower(2))), 3, 5)
	checkSize(t, steps(subs(api.OpUnion, slices.Repeat([][]api.Step{many(2)}, 60)...)), 2, 121)
	checkSize(t, steps(done(api.OpID, api.By{}, api.By{Kind: 7, Key: "9"})), 1, 1)
	checkSize(t, steps(done(api.OpID, api.By{T: many(1)}, api.By{Kind: api.ByKey, Key: "k", T: tower(2)})), 3, 4)
}

func TestNestEnds(t *testing.T) {
	for height := 1; height <= 40; height++ {
		checkSize(t, tower(height), min(height, api.MaxNest+2), min(height, looked))
		checkSize(t, append(many(3), tower(height)...), min(height, api.MaxNest+2), min(height, looked)+3)
		for _, f := range arounds() {
			l := around(f, many(1), height-1)
			checkSize(t, l, min(height, api.MaxNest+2), plainSteps(l, 1))
		}
	}
	checkSize(t, tower(5000), api.MaxNest+2, looked)
	checkSize(t, around(arounds()[7], nil, 5000), api.MaxNest+2, looked)
}

// A plan within more than MaxNest and 1 of those within l counts for nothing.
func TestStepsDeep(t *testing.T) {
	for _, f := range arounds() {
		for _, n := range []int{0, 1, 7, 300} {
			own := plan.Steps(f(nil))
			checkSize(t, around(f, many(n), looked-1), looked, (looked-1)*own+n)
			checkSize(t, around(f, many(n), looked), looked, plainSteps(around(f, nil, looked), 1))
		}
	}
	checkSize(t, around(arounds()[0], many(300), looked), looked, looked)
}

func TestStepsEnd(t *testing.T) {
	for _, n := range []int{api.MaxSteps - 1, api.MaxSteps, api.MaxSteps + 1, api.MaxSteps + 2, 10 * api.MaxSteps, 1 << 16} {
		most := min(n, api.MaxSteps+1)
		checkSize(t, many(n), 1, most)
		checkSize(t, steps(where(many(n-1)...)), 2, most)
		checkSize(t, steps(subs(api.OpUnion, many(n-2), many(1))), 2, most)
		checkSize(t, append(steps(done(api.OpOrder, byPlan(many(n-4)...), byPlan(many(1)...))), many(2)...), 2, most)
		checkSize(t, around(arounds()[0], many(n-looked+1), looked-1), looked, most)
		checkSize(t, around(arounds()[0], many(n), looked), looked, looked)
	}
	checkSize(t, steps(subs(api.OpUnion, make([][]api.Step, 1<<20)...)), 2, 1)
}

func TestSizeOfWhatIsInItself(t *testing.T) {
	checkSize(t, inItself(1, 1, 0), api.MaxNest+2, looked)
	checkSize(t, inItself(1, 0, 1), api.MaxNest+2, looked)
	checkSize(t, append(many(3), inItself(1, 1, 0)...), api.MaxNest+2, looked+3)
	for _, size := range []int{1, 2, 1000} {
		for _, wide := range []int{1, api.MaxArgs, 1000} {
			checkSize(t, inItself(size, wide, wide), api.MaxNest+2, api.MaxSteps+1)
		}
	}
}

// Rows that are handed in for many places: far too many ways down to go each.
func TestSizeOfSharedPlans(t *testing.T) {
	for times := 1; times <= 30; times++ {
		l := shared(many(1), times, api.MaxArgs, api.MaxArgs)
		all := 101
		if times > 1 {
			all = api.MaxSteps + 1
		}
		checkSize(t, l, min(times+1, api.MaxNest+2), all)
		l = shared(nil, times, 1000, 0)
		if plan.Nest(l) != min(times+1, api.MaxNest+2) {
			t.Error(times, plan.Nest(l))
		}
	}
}

// anyPlan: a plan of chance steps, at most so many plans within one another.
func anyPlan(r *rand.Rand, deep int) []api.Step {
	var l []api.Step
	for range r.Intn(3) {
		x := bare(r.Intn(53))
		for range r.Intn(3) * min(deep, 1) {
			x.T = append(x.T, anyPlan(r, deep-1))
		}
		for range r.Intn(3) * min(deep, 1) {
			b := api.By{Kind: r.Intn(4)}
			if r.Intn(2) == 0 {
				b.T = anyPlan(r, deep-1)
			}
			x.By = append(x.By, b)
		}
		if r.Intn(9) == 0 {
			x.As = []string{"a"}
		}
		l = append(l, x)
	}
	return l
}

// Of chance plans everything is told as a plain reading tells it.
func TestAnyPlans(t *testing.T) {
	r, all := rand.New(rand.NewSource(1)), fieldsByOp(t)
	used, free, good := 0, 0, 0
	for range 20000 {
		l := anyPlan(r, r.Intn(5))
		checkSize(t, l, min(plainNest(l), api.MaxNest+2), min(plainSteps(l, 1), api.MaxSteps+1))
		ops := []int{r.Intn(53), r.Intn(53), -1}[:r.Intn(4)]
		checkUses(t, l, plainUses(l, ops), ops...)
		checkFree(t, l, plainFree(l))
		checkCopy(t, l, l)
		checkSame(t, l, plan.Copy(l), true)
		if (plan.Check(l) == api.OK) != plainCheck(all, l) {
			t.Errorf("Check(%s) = %d", show(l), plan.Check(l))
		}
		if len(l) > 0 && plainCheck(all, l) {
			good++
		}
		other := anyPlan(r, r.Intn(3))
		checkSame(t, l, other, alike(l, other))
		if len(l) > 0 && plainUses(l, ops) {
			used++
		}
		if plainNest(l) > 1 && plainFree(l) {
			free++
		}
	}
	if used < 500 || free < 500 || good < 500 {
		t.Error("too few:", used, free, good)
	}
}
