package plan_test

import (
	"slices"
	"testing"

	"wayfarer/api"
	"wayfarer/plan"
	"wayfarer/value"
)

// scribble writes over all that is in l, and the room behind it.
func scribble(l []api.Step) {
	for _, x := range l {
		scribbleValues(vals(x.V))
		scribblePreds([]api.Pred{x.P})
		for _, p := range x.T {
			scribble(p)
		}
		for _, b := range x.By {
			scribble(b.T)
		}
		fill(x.S, "written over")
		fill(x.N, 77)
		fill(x.T, many(77))
		fill(x.By, byKey("written over"))
		fill(x.As, "written over")
	}
	fill(l, texts(77, "written over"))
}

func scribbleValues(l []api.Value) {
	for _, v := range l {
		scribbleValues(v.L)
		scribbleValues(v.M)
	}
	fill(l, num(77))
}

func scribblePreds(l []api.Pred) {
	for _, p := range l {
		scribbleValues(p.V)
		scribblePreds(p.P)
	}
	fill(l, eq(77))
}

func fill[T any](l []T, x T) {
	l = l[:cap(l)]
	for i := range l {
		l[i] = x
	}
}

// roomy: l, with room behind each row, in which something stands.
func roomy(l []api.Step) []api.Step {
	by := func(b api.By) api.By {
		b.T = roomy(b.T)
		return b
	}
	return withRoom(l, bare(99), func(x api.Step) api.Step {
		return api.Step{
			Op: x.Op, S: withRoom(x.S, "room", itself), N: withRoom(x.N, 99, itself), V: roomyValue(x.V), P: roomyPred(x.P),
			T: withRoom(x.T, nil, roomy), By: withRoom(x.By, byKey("room"), by), As: withRoom(x.As, "room", itself),
		}
	})
}

func roomyPred(p api.Pred) api.Pred {
	p.V, p.P = withRoom(p.V, num(99), roomyValue), withRoom(p.P, eq(99), roomyPred)
	return p
}

func roomyValue(v api.Value) api.Value {
	v.L, v.M = withRoom(v.L, num(99), roomyValue), withRoom(v.M, num(99), roomyValue)
	return v
}

func itself[T any](x T) T { return x }

func withRoom[T any](l []T, behind T, of func(T) T) []T {
	var row []T
	for _, x := range l {
		row = append(row, of(x))
	}
	return append(row, behind)[:len(l)]
}

// behind: what stands in the room behind a row of roomy.
func behind[T any](l []T) T { return l[:len(l)+1][len(l)] }

// roomIsKept: does the same stand behind the rows of roomy?
func roomIsKept(l []api.Step) bool {
	by := func(b api.By) bool { return roomIsKept(b.T) }
	return alikeSteps(behind(l), bare(99)) && every(l, func(x api.Step) bool {
		return behind(x.S) == "room" && behind(x.N) == 99 && behind(x.As) == "room" && len(behind(x.T)) == 0 && behind(x.By).Key == "room" &&
			roomIsKeptInValue(x.V) && roomIsKeptInPred(x.P) && every(x.T, roomIsKept) && every(x.By, by)
	})
}

func roomIsKeptInPred(p api.Pred) bool {
	return value.Same(behind(p.V), num(99)) && alikePreds(behind(p.P), eq(99)) &&
		every(p.V, roomIsKeptInValue) && every(p.P, roomIsKeptInPred)
}

func roomIsKeptInValue(v api.Value) bool {
	return value.Same(behind(v.L), num(99)) && value.Same(behind(v.M), num(99)) &&
		every(v.L, roomIsKeptInValue) && every(v.M, roomIsKeptInValue)
}

// full: a step with something in every field, and rows in all places.
func full(op int, p []api.Step) api.Step {
	v := api.Value{Kind: api.Map, L: vals(num(1), list(num(2))), M: vals(list(num(3)), num(4))}
	return api.Step{
		Op: op, S: []string{"s", "t"}, N: []int{1, 2}, V: v, P: made(api.And, of(api.Within, v, num(5)), not(eq(6))),
		T: [][]api.Step{p, nil, p}, By: []api.By{byKey("k"), down(byPlan(p...)), {Kind: 9, Key: "l", T: p}}, As: []string{"a", "b"},
	}
}

// nested: plans, and what is none, with rows in every place.
func nested() [][]api.Step {
	l := append(different(), sound(), tower(deepest), tower(looked+3))
	for _, f := range arounds() {
		l = append(l, around(f, steps(full(77, nil)), deepest), around(f, many(2), looked+2))
	}
	inner := steps(full(78, steps(full(79, nil), bare(api.OpID))), full(80, nil))
	return append(l, inner, steps(full(77, inner), full(77, many(1))))
}

// What each call tells of l, but for what comes out of Copy.
type told struct {
	check             api.Errno
	steps, nest       int
	same, other       bool
	uses, none, frees bool
}

func tellOf(l []api.Step) told {
	return told{
		plan.Check(l), plan.Steps(l), plan.Nest(l), plan.Same(l, l), plan.Same(l, many(1)),
		plan.Uses(l, api.OpID, 79), plan.Uses(l), plan.Free(l),
	}
}

// What was handed in is not changed, and may be written over afterwards.
func TestArgumentsAreNotChangedNorKept(t *testing.T) {
	fresh := nested()
	for i, l := range nested() {
		want, copied := tellOf(l), plan.Copy(l)
		mine := roomy(l)
		got, copy := tellOf(mine), plan.Copy(mine)
		if got != want {
			t.Errorf("%s: %v and %v", show(l), got, want)
		}
		if !alike(mine, fresh[i]) || !alike(l, fresh[i]) || !roomIsKept(mine) {
			t.Errorf("%s has become %s", show(fresh[i]), show(mine))
		}
		scribble(mine)
		if !alike(copy, copied) {
			t.Errorf("Copy(%s) has become %s, when that was written over", show(l), show(copy))
		}
		if got := tellOf(l); got != want {
			t.Errorf("%s: %v and then %v", show(l), want, got)
		}
	}
}

// The Ops that are asked for are neither changed nor kept.
func TestOpsAreNotChangedNorKept(t *testing.T) {
	ops := []int{api.OpMax, api.OpSum, api.OpMin}
	l := steps(where(bare(api.OpSum)))
	checkUses(t, l, true, ops[:2]...)
	if !slices.Equal(ops, []int{api.OpMax, api.OpSum, api.OpMin}) {
		t.Error(ops)
	}
	ops[1] = api.OpID
	checkUses(t, l, false, ops[:2]...)
	checkUses(t, l, true, api.OpSum)
}

// What comes out may be written over: what was handed in, and what came out
// before and comes out afterwards, stays as it is.
func TestAnswersAreTheirOwners(t *testing.T) {
	fresh := nested()
	for i, l := range nested() {
		want := plan.Copy(fresh[i])
		before := plan.Copy(l)
		scribble(plan.Copy(l))
		if !alike(l, fresh[i]) {
			t.Errorf("Copy shares with what was handed in: %s", show(fresh[i]))
		}
		if !alike(before, want) || !alike(plan.Copy(l), want) {
			t.Errorf("Copy shares with another answer: %s", show(l))
		}
	}
}

// rowsSeen: places of rows, of each type that a plan has.
type rowsSeen struct {
	steps  map[*api.Step]bool
	plans  map[*[]api.Step]bool
	bys    map[*api.By]bool
	texts  map[*string]bool
	nums   map[*int]bool
	values map[*api.Value]bool
	preds  map[*api.Pred]bool
}

// apart: do no two of the rows in l share memory, nor the room behind them?
func apart(l []api.Step) bool {
	return rowsSeen{
		map[*api.Step]bool{}, map[*[]api.Step]bool{}, map[*api.By]bool{}, map[*string]bool{}, map[*int]bool{}, map[*api.Value]bool{}, map[*api.Pred]bool{},
	}.first(l)
}

func (s rowsSeen) first(l []api.Step) bool {
	by := func(b api.By) bool { return s.first(b.T) }
	return firstSeen(s.steps, l) && every(l, func(x api.Step) bool {
		return firstSeen(s.texts, x.S) && firstSeen(s.texts, x.As) && firstSeen(s.nums, x.N) && firstSeen(s.plans, x.T) && firstSeen(s.bys, x.By) &&
			s.firstValues(x.V.L) && s.firstValues(x.V.M) && s.firstValues(x.P.V) && s.firstPreds(x.P.P) && every(x.T, s.first) && every(x.By, by)
	})
}

func (s rowsSeen) firstValues(l []api.Value) bool {
	return firstSeen(s.values, l) && every(l, func(v api.Value) bool { return s.firstValues(v.L) && s.firstValues(v.M) })
}

func (s rowsSeen) firstPreds(l []api.Pred) bool {
	return firstSeen(s.preds, l) && every(l, func(p api.Pred) bool { return s.firstValues(p.V) && s.firstPreds(p.P) })
}

// firstSeen: is no place of that row, nor of the room behind it, there yet?
func firstSeen[T any](seen map[*T]bool, l []T) bool {
	l = l[:cap(l)]
	for i := range l {
		if seen[&l[i]] {
			return false
		}
		seen[&l[i]] = true
	}
	return true
}

// A row that is handed in for several places is each one's own when it comes
// out.
func TestRowsHandedInTwice(t *testing.T) {
	x := full(77, many(1))
	x.As = x.S
	x.V.M, x.P.P[0].V = x.V.L, x.V.L
	l := steps(x, x, subs(78, x.T...), done(79, x.By...), bare(api.OpID))
	l[4].T, l[4].By = [][]api.Step{l[:2], l[:2]}, []api.By{byPlan(l[:3]...)}
	for _, l := range [][]api.Step{steps(x), steps(x, x), l, l[:4], inItself(2, 1, 0), inItself(1, 1, 1)} {
		if apart(l) {
			t.Error("rows that are there twice are not found:", show(l))
		}
	}
	for _, l := range append(nested(), steps(x), steps(x, x), l[:4], inItself(2, 1, 0), inItself(1, 1, 1)) {
		if !apart(plan.Copy(l)) {
			t.Errorf("Copy(%s) has a row twice", show(l))
		}
	}
	checkCopy(t, l[:4], l[:4])
}
