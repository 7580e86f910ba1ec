package plan_test

import (
	"math/rand"
	"slices"
	"testing"

	"wayfarer/api"
	"wayfarer/plan"
)

// sound: for each Op steps that may be, with few fields and with more of them.
func sound() []api.Step {
	count := many(1)
	l := steps(
		bare(api.OpV), nums(api.OpV, 0), nums(api.OpV, 3, 1, 3, api.MaxInt), bare(api.OpE), nums(api.OpE, 7), nums(api.OpE, 0, 0),
		constant(num(3)), has("age", eq(1)), is(eq(1)), nums(api.OpHasID, 1), nums(api.OpHasID, -1, 0, api.MinInt),
		nums(api.OpRange, 0, 0), nums(api.OpRange, 2, -1), nums(api.OpRange, 2, 9), nums(api.OpTail, 0), nums(api.OpTail, api.MaxInt),
		subs(api.OpChoose, count, nil, tower(2)), subs(api.OpChoose, nil, nil, nil),
		repeat(0, 0, nil), repeat(3, 1, count), repeat(-1, 0, count, nil), repeat(-1, 1, nil, tower(3)), repeat(api.MaxInt, 0, count, count),
		bare(api.OpOrder), done(api.OpOrder, byValue()), done(api.OpOrder, down(byKey("k")), byPlan(), byKey("k"), down(byPlan(count...)), down(byValue())),
		bare(api.OpGroup), done(api.OpGroup, byKey("k")), done(api.OpGroup, byValue(), byPlan(count...)),
		bare(api.OpGroupCount), done(api.OpGroupCount, byPlan(tower(2)...)),
		project([]string{"p"}), project([]string{"p", "q"}, byKey("p")), project([]string{"p", "q"}, byValue(), byPlan()))
	for _, op := range []int{api.OpOut, api.OpIn, api.OpBoth, api.OpOutE, api.OpInE, api.OpBothE, api.OpValues} {
		l = append(l, bare(op), texts(op, "a"), texts(op, "a", "b", "a"))
	}
	for _, op := range []int{api.OpHasLabel, api.OpSelect} {
		l = append(l, texts(op, "a"), texts(op, "a", "b", "a"))
	}
	for _, op := range []int{api.OpHasKey, api.OpHasNot, api.OpAggregate, api.OpCap} {
		l = append(l, texts(op, "a"))
	}
	for _, op := range []int{api.OpWhere, api.OpNotThat, api.OpOptional} {
		l = append(l, subs(op, nil), subs(op, count), subs(op, tower(3)))
	}
	for _, op := range []int{api.OpAllOf, api.OpAnyOf, api.OpUnion, api.OpCoalesce} {
		l = append(l, subs(op, nil), subs(op, count), subs(op, count, nil, tower(3), count))
	}
	for op := api.OpV; op <= api.OpBarrier; op++ {
		if !slices.ContainsFunc(l, func(x api.Step) bool { return x.Op == op }) {
			l = append(l, bare(op))
		}
	}
	return l
}

func TestCheck(t *testing.T) {
	checkCheck(t, nil, api.OK)
	checkCheck(t, []api.Step{}, api.OK)
	var seen []int
	for _, x := range sound() {
		checkStep(t, x)
		checkStep(t, as(x, "a"))
		checkStep(t, as(x, "a", "b", "a"))
		seen = append(seen, x.Op)
	}
	slices.Sort(seen)
	if n := len(slices.Compact(seen)); n != 51 {
		t.Error("steps of", n, "Ops alone")
	}
	checkCheck(t, sound(), api.OK)
}

func TestCheckOps(t *testing.T) {
	for _, op := range []int{api.MinInt, -52, -1, 0, 52, 53, 100, 256 + api.OpCount, 1<<32 + api.OpCount, api.MaxInt} {
		checkNoStep(t, bare(op))
		for _, x := range sound() {
			x.Op = op
			checkCheck(t, steps(x), api.ErrArg)
		}
	}
}

// Of each Op every step with so many of each field: just those may be that the
// chapter's table tells.
func TestCheckFields(t *testing.T) {
	counts := []int{0, 1, 2, 3, 4, api.MaxArgs, api.MaxArgs + 1}
	values, asked := []api.Value{{}, num(1)}, []api.Pred{{}, eq(1)}
	for op, f := range fieldsByOp(t) {
		good := 0
		for _, s := range counts {
			for _, n := range counts {
				for _, p := range counts {
					for _, b := range counts {
						for i := range 4 {
							x := api.Step{
								Op: op, S: labels(s), N: slices.Repeat([]int{1}, n), V: values[i/2], P: asked[i%2],
								T: make([][]api.Step, p), By: slices.Repeat([]api.By{byValue()}, b),
							}
							want := api.ErrArg
							if f.fit(x) && (op != api.OpProject || b <= s) {
								want = api.OK
								good++
							}
							checkCheck(t, steps(x), want)
						}
					}
				}
			}
		}
		if good == 0 {
			t.Error("nothing may be of", op)
		}
	}
}

// A field that a step has not is wrong by whatever is in it.
func TestCheckFieldsThatAStepHasNot(t *testing.T) {
	for _, x := range sound() {
		y := x
		for _, v := range []api.Value{{Kind: api.Bool}, {Kind: -1}, {N: 1}, {S: "a"}, {L: vals(num(1))}, {M: vals(num(1))}, {L: make([]api.Value, 1)}} {
			if y.V = v; x.Op != api.OpConstant {
				checkCheck(t, steps(y), api.ErrArg)
			}
		}
		y = x
		for _, p := range []api.Pred{{Kind: api.Within}, {Kind: -1}, {V: vals(num(1))}, {P: make([]api.Pred, 1)}, endlessPred(0, 1)} {
			if y.P = p; x.Op != api.OpHas && x.Op != api.OpIs {
				checkCheck(t, steps(y), api.ErrArg)
			}
		}
	}
}

// A list that is empty is one that is nil.
func TestEmptyLists(t *testing.T) {
	none := []api.Step{}
	v, p := api.Value{L: []api.Value{}, M: []api.Value{}}, api.Pred{V: []api.Value{}, P: []api.Pred{}}
	empty := func(op int) api.Step {
		return api.Step{Op: op, S: []string{}, N: []int{}, V: v, P: p, T: [][]api.Step{}, By: []api.By{}, As: []string{}}
	}
	for op := range 60 {
		if plan.Check(steps(empty(op))) != plan.Check(steps(bare(op))) {
			t.Error(op)
		}
		checkSame(t, steps(empty(op)), steps(bare(op)), true)
		checkCopy(t, steps(empty(op)), steps(bare(op)))
		checkSize(t, steps(empty(op)), 1, 1)
	}
	checkSame(t, nil, none, true)
	checkCopy(t, none, nil)
	checkSize(t, none, 1, 0)
	a := steps(subs(api.OpUnion, none), done(api.OpOrder, api.By{Kind: api.ByKey, Key: "k", T: none}, api.By{Kind: api.ByChain, T: none}))
	b := steps(subs(api.OpUnion, nil), done(api.OpOrder, byKey("k"), byPlan()))
	checkCheck(t, a, api.OK)
	checkSame(t, a, b, true)
	checkCopy(t, a, b)
	checkSize(t, a, 2, 2)
}

// plainChange: l, changed at one place, by chance.
func plainChange(r *rand.Rand, l []api.Step) {
	if len(l) == 0 {
		return
	}
	x := &l[r.Intn(len(l))]
	numbers, names := []int{-2, -1, 0, 1, 2, 50, api.MaxInt}, []string{"", "a", "b", "9", "a b"}
	switch r.Intn(13) {
	case 0:
		x.Op = r.Intn(54) - 1
	case 1:
		x.S = append(x.S, names[r.Intn(len(names))])
	case 2:
		x.S = x.S[:len(x.S)/2]
	case 3:
		x.N = append(x.N, numbers[r.Intn(len(numbers))])
	case 4:
		x.N = x.N[:len(x.N)/2]
	case 5:
		if len(x.N) > 0 {
			x.N[r.Intn(len(x.N))] = numbers[r.Intn(len(numbers))]
		}
	case 6:
		x.V = append(values(), noValues()...)[r.Intn(20)]
	case 7:
		x.P = append(noPreds()[:8:8], preds()...)[r.Intn(20)]
	case 8:
		x.T = append(x.T, many(r.Intn(3)))
	case 9:
		x.T = x.T[:len(x.T)/2]
	case 10:
		x.By = append(x.By, api.By{Kind: r.Intn(5), Key: names[r.Intn(len(names))], Desc: r.Intn(4) == 0})
	case 11:
		x.As = append(x.As, names[r.Intn(len(names))])
	case 12:
		for _, p := range x.T {
			plainChange(r, p)
		}
		for i := range x.By {
			plainChange(r, x.By[i].T)
			x.By[i].Desc = r.Intn(9) == 0 && x.By[i].Desc
		}
	}
}

// Steps that may be, changed at a few places: Check tells what a plain reading
// of the chapter tells.
func TestCheckOfChangedPlans(t *testing.T) {
	all, r := fieldsByOp(t), rand.New(rand.NewSource(1))
	good := 0
	for range 400 {
		for _, x := range sound() {
			l := plan.Copy(steps(as(x, "a"), where(x), bare(api.OpFold)))
			for range 1 + r.Intn(3) {
				plainChange(r, l)
			}
			want := api.ErrArg
			if plainCheck(all, l) {
				want = api.OK
				good++
			}
			checkCheck(t, l, want)
		}
	}
	if good < 1000 {
		t.Error("too few:", good)
	}
}
