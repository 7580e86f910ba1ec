package plan_test

import (
	"math/rand"
	"slices"
	"testing"

	"wayfarer/api"
	"wayfarer/plan"
)

// different: plans, and what is none, no two of which are the same.
func different() [][]api.Step {
	l := [][]api.Step{nil, many(2), steps(api.Step{}), steps(bare(-1)), steps(bare(52))}
	for _, x := range sound() {
		l = append(l, steps(x), steps(as(x, "a")), steps(x, bare(0)), steps(bare(0), x))
	}
	for _, v := range values() {
		l = append(l, steps(api.Step{Op: 77, V: v}))
	}
	for _, p := range append(preds(), of(-1, num(1)), of(api.Eq)) {
		l = append(l, steps(api.Step{Op: 77, P: p}))
	}
	return append(l,
		steps(subs(77, nil)), steps(subs(77, nil, nil)), steps(subs(77, many(1))), steps(subs(77, many(1), nil)), steps(subs(77, nil, many(1))),
		steps(done(77, api.By{})), steps(done(77, api.By{}, api.By{})), steps(done(77, byValue())), steps(done(77, byPlan())), steps(done(77, down(byPlan()))),
		steps(done(77, api.By{Kind: api.ByKey})), steps(done(77, byKey("a"))), steps(done(77, byKey("b"))), steps(done(77, api.By{Key: "a"})),
		steps(done(77, byPlan(many(1)...))), steps(done(77, byPlan(), byPlan(many(1)...))), steps(done(77, byPlan(many(1)...), byPlan())),
		steps(done(77, api.By{T: many(1)}, api.By{})), steps(done(77, api.By{}, api.By{T: many(1)})),
		steps(api.Step{Op: 77, T: [][]api.Step{nil}, By: []api.By{byPlan()}}), steps(api.Step{Op: 77, T: [][]api.Step{nil}, By: []api.By{byPlan(many(1)...)}}),
		steps(api.Step{Op: 77, T: [][]api.Step{many(1)}, By: []api.By{byPlan()}}),
		steps(texts(77, "a")), steps(texts(77, "b")), steps(texts(77, "a", "b")), steps(texts(77, "b", "a")), steps(texts(77, "")), steps(as(bare(77), "a")), steps(as(bare(77), "")),
		steps(nums(77, 0)), steps(nums(77, 0, 0)), steps(nums(77, 1, 2)), steps(nums(77, 2, 1)))
}

func TestSame(t *testing.T) {
	all := different()
	for i, a := range all {
		checkSame(t, a, a, true)
		checkSame(t, a, plan.Copy(a), true)
		for j, b := range all {
			if plan.Same(a, b) != (i == j) {
				t.Errorf("Same(%s, %s) is %v", show(a), show(b), i != j)
			}
		}
	}
}

// Two plans that differ in one place, wherever that place is.
func TestSameButForOnePlace(t *testing.T) {
	base := func() []api.Step {
		return steps(
			as(nums(api.OpV, 1, 2), "a", "b"),
			api.Step{Op: api.OpHas, S: []string{"k", "l"}, P: made(api.And, eq(1), of(api.Within, num(2), list(num(3)))), V: list(num(1), text("x"))},
			repeat(-1, 1, steps(bare(api.OpOut), bare(api.OpIn)), steps(where(bare(api.OpID)))),
			done(api.OpOrder, byKey("k"), byPlan(bare(api.OpID), texts(api.OpOut, "x")), byValue()))
	}
	for i, change := range []func(l []api.Step){
		func(l []api.Step) { l[0].Op = api.OpE },
		func(l []api.Step) { l[0].S = []string{"a"} },
		func(l []api.Step) { l[0].N[1] = 3 },
		func(l []api.Step) { l[0].N = l[0].N[:1] },
		func(l []api.Step) { l[0].N = append(l[0].N, 0) },
		func(l []api.Step) { l[0].As[0], l[0].As[1] = l[0].As[1], l[0].As[0] },
		func(l []api.Step) { l[0].As = l[0].As[:1] },
		func(l []api.Step) { l[0].As = nil },
		func(l []api.Step) { l[0].As = append(l[0].As, "b") },
		func(l []api.Step) { l[0].V = num(0) },
		func(l []api.Step) { l[0].P = api.Pred{Kind: api.Within} },
		func(l []api.Step) { l[0].T = [][]api.Step{nil} },
		func(l []api.Step) { l[0].By = []api.By{{}} },
		func(l []api.Step) { l[1].S[1] = "L" },
		func(l []api.Step) { l[1].S = l[1].S[1:] },
		func(l []api.Step) { l[1].V.Kind = api.Path },
		func(l []api.Step) { l[1].V.N = 1 },
		func(l []api.Step) { l[1].V.S = "x" },
		func(l []api.Step) { l[1].V.L[1].S = "y" },
		func(l []api.Step) { l[1].V.L = l[1].V.L[:1] },
		func(l []api.Step) { l[1].V.M = vals(num(1)) },
		func(l []api.Step) { l[1].P.Kind = api.Or },
		func(l []api.Step) { l[1].P.V = vals(num(1)) },
		func(l []api.Step) { l[1].P.P = l[1].P.P[:1] },
		func(l []api.Step) { l[1].P.P[0].Kind = api.Neq },
		func(l []api.Step) { l[1].P.P[1].V[1].L[0].N = 4 },
		func(l []api.Step) { l[1].P.P[1].P = []api.Pred{eq(1)} },
		func(l []api.Step) { l[2].N[0] = 0 },
		func(l []api.Step) { l[2].N[1] = 0 },
		func(l []api.Step) { l[2].T = l[2].T[:1] },
		func(l []api.Step) { l[2].T = append(l[2].T, nil) },
		func(l []api.Step) { l[2].T[0], l[2].T[1] = l[2].T[1], l[2].T[0] },
		func(l []api.Step) { l[2].T[0] = l[2].T[0][:1] },
		func(l []api.Step) { l[2].T[0] = nil },
		func(l []api.Step) { l[2].T[0][0].Op = api.OpIn },
		func(l []api.Step) { l[2].T[0][1].As = []string{"a"} },
		func(l []api.Step) { l[2].T[1][0].T[0] = nil },
		func(l []api.Step) { l[2].T[1][0].T[0][0].Op = api.OpLabel },
		func(l []api.Step) { l[2].T[1][0].T[0][0].N = []int{0} },
		func(l []api.Step) { l[3].By = l[3].By[:2] },
		func(l []api.Step) { l[3].By[0], l[3].By[2] = l[3].By[2], l[3].By[0] },
		func(l []api.Step) { l[3].By[0].Key = "l" },
		func(l []api.Step) { l[3].By[0].Desc = true },
		func(l []api.Step) { l[3].By[2].Desc = true },
		func(l []api.Step) { l[3].By[2].Kind = api.ByChain },
		func(l []api.Step) { l[3].By[2].T = many(1) },
		func(l []api.Step) { l[3].By[1].Kind = 0 },
		func(l []api.Step) { l[3].By[1].Key = "k" },
		func(l []api.Step) { l[3].By[1].T = nil },
		func(l []api.Step) { l[3].By[0].T, l[3].By[1].T = l[3].By[1].T, nil },
		func(l []api.Step) { l[3].By[1].T = l[3].By[1].T[1:] },
		func(l []api.Step) { l[3].By[1].T[1].S[0] = "y" },
		func(l []api.Step) { l[3].By[1].T[1].T = [][]api.Step{nil} },
	} {
		l := base()
		change(l)
		for _, f := range arounds() {
			for _, times := range []int{0, 1, deepest, looked, 30} {
				checkSame(t, around(f, l, times), around(f, base(), times), false)
				checkSame(t, around(f, l, times), around(f, l, times), true)
			}
		}
		if alike(l, base()) {
			t.Error(i, "is the same:", show(l))
		}
		checkSame(t, l, plan.Copy(l), true)
	}
	checkSame(t, base(), base(), true)
	checkSame(t, base(), base()[:3], false)
	checkSame(t, base(), base()[1:], false)
	checkSame(t, base(), append(base(), bare(api.OpV)), false)
}

// No plan and no predicate is so deep that Same would not look at it.
func TestSameDeep(t *testing.T) {
	for _, f := range arounds() {
		for times := range 40 {
			a := around(f, many(1), times)
			checkSame(t, a, around(f, many(1), times), true)
			checkSame(t, a, around(f, many(2), times), false)
			checkSame(t, a, around(f, nil, times), false)
			checkSame(t, a, around(f, steps(as(bare(api.OpCount), "a")), times), false)
			checkSame(t, a, around(f, many(1), times+1), false)
		}
	}
	for times := range 40 {
		a, b := nots(eq(1), times), nots(eq(2), times)
		checkSame(t, steps(is(a)), steps(is(a)), true)
		checkSame(t, steps(is(a)), steps(is(b)), false)
		checkSame(t, steps(is(a)), steps(is(not(a))), false)
		checkSame(t, around(arounds()[0], steps(has("k", a)), 20), around(arounds()[0], steps(has("k", a)), 20), true)
		checkSame(t, around(arounds()[0], steps(has("k", a)), 20), around(arounds()[0], steps(has("k", b)), 20), false)
	}
	// What is deeper than calls within one another could go down.
	const times = 300000
	a := around(arounds()[0], many(1), times)
	checkSame(t, a, around(arounds()[0], many(1), times), true)
	checkSame(t, a, around(arounds()[0], many(2), times), false)
}

// Values are the same as layer 2 tells it.
func TestSameOfDeepValues(t *testing.T) {
	for lists := range api.MaxDepth {
		checkSame(t, steps(constant(within(num(1), lists))), steps(constant(within(num(2), lists))), false)
		checkSame(t, steps(is(of(api.Eq, within(num(1), lists)))), steps(is(of(api.Eq, within(num(2), lists)))), false)
	}
	checkSame(t, steps(constant(endlessList())), steps(constant(endlessList())), true)
	checkSame(t, steps(constant(endlessList())), steps(constant(within(num(1), 5))), false)
}

// What Copy leaves out is told.
func TestSameAsItsCopy(t *testing.T) {
	for times := range 3 * looked {
		for _, f := range arounds() {
			l := around(f, many(1), times)
			checkSame(t, l, plan.Copy(l), times < looked)
		}
	}
}

func TestSameOfWhatIsInItself(t *testing.T) {
	for _, x := range [][3]int{{1, 1, 0}, {1, 0, 1}, {1, 3, 2}, {2, 1, 0}, {3, 2, 2}, {1000, 1, 1}, {20, api.MaxArgs, api.MaxArgs}} {
		l := inItself(x[0], x[1], x[2])
		checkSame(t, l, l, true)
		checkSame(t, l, inItself(x[0], x[1], x[2]), true)
		checkSame(t, l, inItself(x[0]+1, x[1], x[2]), false)
		checkSame(t, l, inItself(x[0], x[1]+1, x[2]), false)
		checkSame(t, l, inItself(x[0], x[1], x[2]+1), false)
		checkSame(t, l, steps(l[0]), x[0] == 1)
		checkSame(t, l, slices.Clone(l), true)
		checkSame(t, append(many(1), l...), append(many(1), l...), true)
		checkSame(t, append(slices.Clone(l), many(1)...), append(slices.Clone(l), many(2)...), false)
		other := inItself(x[0], x[1], x[2])
		other[x[0]-1].As = []string{"a"}
		checkSame(t, l, other, false)
	}
	checkSame(t, inItself(1, 1, 0), around(func(l []api.Step) []api.Step { return steps(subs(api.OpUnion, l)) }, inItself(1, 1, 0), 7), true)
	checkSame(t, inItself(1, 1, 0), around(func(l []api.Step) []api.Step { return steps(subs(api.OpUnion, l)) }, nil, 1000), false)
	checkSame(t, steps(is(endlessPred(api.Not, 1))), steps(is(endlessPred(api.Not, 1))), true)
	checkSame(t, steps(is(endlessPred(api.Not, 1))), steps(is(nots(eq(1), 1000))), false)
}

// ring: so many plans, each of which is in the next one, the last one in the
// first one, of which that is the Op.
func ring(op, size int) []api.Step {
	all := make([][]api.Step, size)
	for i := range all {
		all[i] = many(1)
	}
	for i := range all {
		all[i][0] = where(all[(i+1)%size]...)
		all[i][0].T[0] = all[(i+1)%size]
	}
	all[0][0].Op = op
	return all[0]
}

func TestSameOfRings(t *testing.T) {
	for a := 1; a <= 12; a++ {
		for b := 1; b <= 12; b++ {
			// Where alone is the same, however long the way round is.
			checkSame(t, ring(api.OpWhere, a), ring(api.OpWhere, b), true)
			checkSame(t, ring(77, a), ring(77, b), a == b)
			checkSame(t, ring(77, a), ring(api.OpWhere, b), false)
		}
	}
	checkSame(t, ring(77, 10007), ring(77, 10007), true)
	checkSame(t, ring(77, 10007), ring(77, 9973), false)
}

// Rows that are handed in for many places are gone through once.
func TestSameOfSharedPlans(t *testing.T) {
	for _, times := range []int{1, 5, 40, 500} {
		a := shared(many(1), times, api.MaxArgs, 2)
		checkSame(t, a, shared(many(1), times, api.MaxArgs, 2), true)
		checkSame(t, a, shared(many(2), times, api.MaxArgs, 2), false)
		checkSame(t, a, shared(many(1), times+1, api.MaxArgs, 2), false)
	}
	row := steps(where(bare(api.OpID)), where(bare(api.OpID)), where(bare(api.OpMax)))
	checkSame(t, row[:2], row[1:], false)
	checkSame(t, row[:1], row[1:2], true)
	checkSame(t, row[:2], row, false)
}

// web: so many plans of chance steps, in each of which are chance ones of them
// all.
func web(r *rand.Rand, size int) [][]api.Step {
	all := make([][]api.Step, size)
	for i := range all {
		all[i] = make([]api.Step, 1+r.Intn(2))
	}
	for _, l := range all {
		for i := range l {
			l[i] = bare(api.OpUnion + r.Intn(2))
			for range r.Intn(3) {
				l[i].T = append(l[i].T, all[r.Intn(size)])
			}
			for range r.Intn(2) {
				l[i].By = append(l[i].By, api.By{Kind: api.ByKey + r.Intn(2), T: all[r.Intn(size)]})
			}
		}
	}
	return all
}

// plainTwins: can the two not be told apart, so far down?
func plainTwins(a, b []api.Step, deep int) bool {
	if deep == 0 {
		return true
	}
	below := func(p, q []api.Step) bool { return plainTwins(p, q, deep-1) }
	by := func(x, y api.By) bool { return x.Kind == y.Kind && below(x.T, y.T) }
	return slices.EqualFunc(a, b, func(x, y api.Step) bool {
		return x.Op == y.Op && slices.EqualFunc(x.T, y.T, below) && slices.EqualFunc(x.By, y.By, by)
	})
}

// Of so few plans two that differ at all differ less far down than there are
// plans.
func TestSameOfAnyWeb(t *testing.T) {
	r := rand.New(rand.NewSource(1))
	same, other := 0, 0
	for range 20000 {
		size := 1 + r.Intn(4)
		all := web(r, size)
		a, b := all[r.Intn(size)], all[r.Intn(size)]
		want := plainTwins(a, b, size+1)
		checkSame(t, a, b, want)
		if want && &a[0] != &b[0] && len(a[0].T) > 0 {
			same++
		} else if !want {
			other++
		}
	}
	if same < 50 || other < 500 {
		t.Error("too few:", same, other)
	}
}
