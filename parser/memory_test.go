package parser_test

import (
	"slices"
	"testing"

	"wayfarer/api"
	"wayfarer/parser"
)

func writeOver(q []byte) {
	for i := range q {
		q[i] = ';'
	}
}

// scribble writes over all that is in l, and the room behind it.
func scribble(l []api.Call) {
	for _, c := range l {
		for _, a := range c.Args {
			scribbleValues(a.V.L)
			scribblePreds([]api.Pred{a.P})
			scribble(a.C)
		}
		fill(c.Args, api.Arg{Kind: 77, S: "written over"})
	}
	fill(l, call("written over", word("written over")))
}

func scribbleValues(l []api.Value) {
	for _, v := range l {
		scribbleValues(v.L)
	}
	fill(l, num(77))
}

func scribblePreds(l []api.Pred) {
	for _, p := range l {
		scribbleValues(p.V)
		scribblePreds(p.P)
	}
	fill(l, eq(77))
}

func fill[T any](l []T, x T) {
	l = l[:cap(l)]
	for i := range l {
		l[i] = x
	}
}

// all: queries that are read, and such that are not.
func all() []string {
	return append(wholes(), "", "g", "x", "g.", "g.x(", "g.x(1", "g.x([1, [2", "g.x(and(eq(1), eq(2)", "g.x(__.y().z(", "g.x(1).y(2", "g.x() ;", "g.x(' a", "g.x("+row("1", api.MaxArgs+1)+")", "g.x(eq(1, 2))")
}

// The bytes of a query stay as they are, and so do those behind it.
func TestTheQueryStaysAsItIs(t *testing.T) {
	for _, q := range all() {
		room := append([]byte(q), "behind"...)
		parser.Parse(room[:len(q)])
		parser.Round(room[:len(q)])
		if string(room) != q+"behind" {
			t.Errorf("%s has become %q", show(q), room)
		}
	}
}

func TestTheQueryIsNotKept(t *testing.T) {
	for _, q := range all() {
		want, _, _ := parser.Parse([]byte(q))
		wanted, _, _ := parser.Round([]byte(q))
		b := []byte(q)
		l, _, _ := parser.Parse(b)
		s, _, _ := parser.Round(b)
		writeOver(b)
		if !alike(l, want) || s != wanted {
			t.Errorf("%s has become %s, and %s", show(q), showChain(l), show(s))
		}
	}
}

func TestAnswersAreTheirOwners(t *testing.T) {
	for _, q := range all() {
		before, _, _ := parser.Parse([]byte(q))
		over, _, _ := parser.Parse([]byte(q))
		scribble(over)
		behind, _, _ := parser.Parse([]byte(q))
		if !alike(before, behind) || len(over) > 0 && alike(before, over) {
			t.Errorf("%s is %s, and then %s", show(q), showChain(before), showChain(behind))
		}
	}
}

// firstSeen: is no place of that row, nor of the room behind it, there yet?
func firstSeen[T any](seen map[*T]int, l []T) bool {
	l = l[:cap(l)]
	for i := range l {
		if seen[&l[i]]++; seen[&l[i]] > 1 {
			return false
		}
	}
	return true
}

// apart: do no two of the rows in l share memory, nor the room behind them?
func apart(l []api.Call) bool {
	calls, args := map[*api.Call]int{}, map[*api.Arg]int{}
	values, preds := map[*api.Value]int{}, map[*api.Pred]int{}
	var ofValues func([]api.Value) bool
	ofValues = func(l []api.Value) bool {
		return firstSeen(values, l) && every(l, func(v api.Value) bool { return ofValues(v.L) && ofValues(v.M) })
	}
	var ofPreds func([]api.Pred) bool
	ofPreds = func(l []api.Pred) bool {
		return firstSeen(preds, l) && every(l, func(p api.Pred) bool { return ofValues(p.V) && ofPreds(p.P) })
	}
	var ofCalls func([]api.Call) bool
	ofArg := func(a api.Arg) bool {
		return ofValues(a.V.L) && ofValues(a.P.V) && ofPreds(a.P.P) && ofCalls(a.C)
	}
	ofCalls = func(l []api.Call) bool {
		return firstSeen(calls, l) && every(l, func(c api.Call) bool { return firstSeen(args, c.Args) && every(c.Args, ofArg) })
	}
	return ofCalls(l)
}

func every[T any](l []T, is func(T) bool) bool {
	return !slices.ContainsFunc(l, func(x T) bool { return !is(x) })
}

func TestNoTwoRowsShareMemory(t *testing.T) {
	twice := one(val(list(num(1))))
	if apart(append(slices.Clip(twice), twice...)) {
		t.Error("rows that are there twice are not found")
	}
	for _, q := range append(all(), "g.x([1],[1],[[1],[1]],within(1),within(1),and(eq(1),eq(1)),and(eq(1),eq(1)),__.x(1),__.x(1)).x(1,[1])") {
		l, _, _ := parser.Parse([]byte(q))
		if !apart(l) {
			t.Errorf("%s: two rows share memory", show(q))
		}
		for _, c := range l {
			_ = append(c.Args, word("laid behind"))
		}
		_ = append(l, call("laid behind"))
		if again, _, _ := parser.Parse([]byte(q)); !alike(l, again) {
			t.Errorf("%s is %s, and then %s", show(q), showChain(l), showChain(again))
		}
	}
}

// What was read, or refused, before leaves nothing behind.
func TestNothingIsKeptBetweenCalls(t *testing.T) {
	calls := "g" + around(".x()", api.MaxCalls, "", "")
	for range 3 {
		checkRound(t, calls, calls)
		checkTold(t, calls+".x()", len(calls)+1, api.ErrLong)
		checkTold(t, "g.V() 'abc", 6, api.ErrText)
		checkParse(t, "g.a()", one()...)
		checkEnd(t, "")
	}
}
