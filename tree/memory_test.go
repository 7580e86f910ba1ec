package tree_test

import (
	"slices"
	"testing"

	"wayfarer/api"
	"wayfarer/tree"
	"wayfarer/value"
)

// scribble writes over all that is in l, and the room behind it.
func scribble(l []api.Call) {
	for _, c := range l {
		for _, a := range c.Args {
			scribbleValues(vals(a.V))
			scribblePreds([]api.Pred{a.P})
			scribble(a.C)
		}
		fill(c.Args, api.Arg{Kind: 77, S: "written over"})
	}
	fill(l, call("written over", word("written over")))
}

func scribbleValues(l []api.Value) {
	for _, v := range l {
		scribbleValues(v.L)
		scribbleValues(v.M)
	}
	fill(l, num(77))
}

func scribblePreds(l []api.Pred) {
	for _, p := range l {
		scribbleValues(p.V)
		scribblePreds(p.P)
	}
	fill(l, eq(77))
}

func fill[T any](l []T, x T) {
	l = l[:cap(l)]
	for i := range l {
		l[i] = x
	}
}

// roomy: l, with room behind each row, in which something stands.
func roomy(l []api.Call) []api.Call {
	return withRoom(l, call("room"), func(c api.Call) api.Call {
		return call(c.Name, withRoom(c.Args, word("room"), func(a api.Arg) api.Arg {
			return api.Arg{Kind: a.Kind, V: roomyValue(a.V), P: roomyPred(a.P), C: roomy(a.C), S: a.S}
		})...)
	})
}

func roomyPred(p api.Pred) api.Pred {
	p.V, p.P = withRoom(p.V, num(99), roomyValue), withRoom(p.P, eq(99), roomyPred)
	return p
}

func roomyValue(v api.Value) api.Value {
	v.L, v.M = withRoom(v.L, num(99), roomyValue), withRoom(v.M, num(99), roomyValue)
	return v
}

func withRoom[T any](l []T, behind T, of func(T) T) []T {
	var row []T
	for _, x := range l {
		row = append(row, of(x))
	}
	return append(row, behind)[:len(l)]
}

// behind: what stands in the room behind a row of roomy.
func behind[T any](l []T) T { return l[:len(l)+1][len(l)] }

// roomIsKept: does the same stand behind the rows of roomy?
func roomIsKept(l []api.Call) bool {
	args := func(a api.Arg) bool {
		return roomIsKeptInValue(a.V) && roomIsKeptInPred(a.P) && roomIsKept(a.C)
	}
	calls := func(c api.Call) bool {
		return alikeArgs(behind(c.Args), word("room")) && all(c.Args, args)
	}
	return behind(l).Name == "room" && len(behind(l).Args) == 0 && all(l, calls)
}

func roomIsKeptInPred(p api.Pred) bool {
	return value.Same(behind(p.V), num(99)) && alikePreds(behind(p.P), eq(99)) &&
		all(p.V, roomIsKeptInValue) && all(p.P, roomIsKeptInPred)
}

func roomIsKeptInValue(v api.Value) bool {
	return value.Same(behind(v.L), num(99)) && value.Same(behind(v.M), num(99)) &&
		all(v.L, roomIsKeptInValue) && all(v.M, roomIsKeptInValue)
}

func all[T any](l []T, is func(T) bool) bool {
	return !slices.ContainsFunc(l, func(x T) bool { return !is(x) })
}

// nested: chains, and what is none, with rows in every place.
func nested() [][]api.Call {
	l := append(odd(), tower(api.MaxNest), tower(api.MaxNest+3), around(arounds()[3], one(), api.MaxNest))
	for _, a := range args() {
		l = append(l, one(a, word("x"), a), chain(call("a", sub(one(a)...)), call("b", a)))
	}
	for _, v := range append(unwritten(), api.Value{Kind: api.Map, L: vals(list(num(1))), M: vals(list(num(2)))}) {
		l = append(l, one(val(v), asked(made(api.And, eq(1), of(api.Within, v, v)))))
	}
	return l
}

// What each call tells of l, and what comes out of it.
type told struct {
	nest, calls int
	same        bool
	text        string
	check, e    api.Errno
}

func tellOf(l []api.Call) (told, []api.Call) {
	s, e := tree.Print(l)
	return told{tree.Nest(l), tree.Calls(l), tree.Same(l, l), s, tree.Check(l), e}, tree.Copy(l)
}

// What was handed in is not changed, and may be written over afterwards.
func TestArgumentsAreNotChangedNorKept(t *testing.T) {
	fresh := nested()
	for i, l := range nested() {
		want, copied := tellOf(l)
		mine := roomy(l)
		got, copy := tellOf(mine)
		if got != want {
			t.Errorf("%s: %v and %v", show(l), got, want)
		}
		if !alike(mine, fresh[i]) || !alike(l, fresh[i]) || !roomIsKept(mine) {
			t.Errorf("%s has become %s", show(fresh[i]), show(mine))
		}
		scribble(mine)
		if !alike(copy, copied) {
			t.Errorf("Copy(%s) has become %s, when that was written over", show(l), show(copy))
		}
	}
}

// What comes out may be written over: what was handed in, and what came out
// before and comes out afterwards, stays as it is.
func TestAnswersAreTheirOwners(t *testing.T) {
	fresh := nested()
	for i, l := range nested() {
		want := tree.Copy(fresh[i])
		before := tree.Copy(l)
		scribble(tree.Copy(l))
		if !alike(l, fresh[i]) {
			t.Errorf("Copy shares with what was handed in: %s", show(fresh[i]))
		}
		if !alike(before, want) || !alike(tree.Copy(l), want) {
			t.Errorf("Copy shares with another answer: %s", show(l))
		}
	}
}

// apart: do no two of the rows in l share memory, nor the room behind them?
func apart(l []api.Call) bool {
	calls, args := map[*api.Call]bool{}, map[*api.Arg]bool{}
	values, preds := map[*api.Value]bool{}, map[*api.Pred]bool{}
	var ofValues func([]api.Value) bool
	ofValues = func(l []api.Value) bool {
		return firstSeen(values, l) && all(l, func(v api.Value) bool { return ofValues(v.L) && ofValues(v.M) })
	}
	var ofPreds func([]api.Pred) bool
	ofPreds = func(l []api.Pred) bool {
		return firstSeen(preds, l) && all(l, func(p api.Pred) bool { return ofValues(p.V) && ofPreds(p.P) })
	}
	var ofCalls func([]api.Call) bool
	ofArg := func(a api.Arg) bool {
		return ofValues(a.V.L) && ofValues(a.V.M) && ofValues(a.P.V) && ofPreds(a.P.P) && ofCalls(a.C)
	}
	ofCalls = func(l []api.Call) bool {
		return firstSeen(calls, l) && all(l, func(c api.Call) bool { return firstSeen(args, c.Args) && all(c.Args, ofArg) })
	}
	return ofCalls(l)
}

// firstSeen: is no place of that row, nor of the room behind it, there yet?
func firstSeen[T any](seen map[*T]bool, l []T) bool {
	l = l[:cap(l)]
	for i := range l {
		if seen[&l[i]] {
			return false
		}
		seen[&l[i]] = true
	}
	return true
}

// A row that is handed in for several places is each one's own when it comes
// out.
func TestRowsHandedInTwice(t *testing.T) {
	row := vals(num(1), list(num(2)))
	v := api.Value{Kind: api.Map, L: row, M: row}
	p := made(api.And, api.Pred{Kind: api.Within, V: row}, api.Pred{Kind: api.Without, V: row})
	a := api.Arg{Kind: 9, V: v, P: made(api.Or, p, p), C: one(val(v), asked(p))}
	twice := chain(call("a", a, a), call("b", a, sub(a.C...)))
	twice = append(twice, twice...)
	if apart(twice) || apart(one(a)) {
		t.Error("rows that are there twice are not found")
	}
	for _, l := range [][]api.Call{one(a), twice, one(sub(twice...), sub(twice...)), inItself(2, 1), inItself(1, 2)} {
		if !apart(tree.Copy(l)) {
			t.Errorf("Copy(%s) has a row twice", show(l))
		}
	}
	checkCopy(t, twice, twice)
	for _, l := range nested() {
		if !apart(tree.Copy(l)) {
			t.Errorf("Copy(%s) has a row twice", show(l))
		}
	}
}
