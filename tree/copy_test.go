package tree_test

import (
	"testing"

	"wayfarer/api"
	"wayfarer/pred"
	"wayfarer/tree"
	"wayfarer/value"
)

func TestCopy(t *testing.T) {
	checkCopy(t, nil, nil)
	for _, a := range args() {
		checkCopy(t, one(a), one(a))
		for _, f := range arounds() {
			deep := around(f, one(a), looked-plainNest(one(a)))
			checkCopy(t, deep, deep)
		}
	}
	// What is no chain has a copy, too.
	for _, l := range odd() {
		checkCopy(t, l, l)
		checkCopy(t, one(sub(l...), sub(l...)), one(sub(l...), sub(l...)))
	}
	checkCopy(t, many(api.MaxCalls+5), many(api.MaxCalls+5))
	for _, v := range unwritten() {
		checkCopy(t, one(val(v)), one(val(v)))
		checkCopy(t, one(api.Arg{Kind: 7, V: v, S: "x"}), one(api.Arg{Kind: 7, V: v, S: "x"}))
	}
}

// bare: l, without what is in chains that are arguments of its calls.
func bare(l []api.Call) []api.Call {
	l = tree.Copy(l)
	for _, c := range l {
		for i := range c.Args {
			c.Args[i].C = nil
		}
	}
	return l
}

// A chain within more than MaxNest of those within l is not there.
func TestCopyDeep(t *testing.T) {
	for _, f := range arounds() {
		for _, last := range [][]api.Call{one(), many(3), one(sub(one()...)), chain(api.Call{}), tower(500)} {
			cut := around(f, bare(f(last)), looked-1)
			checkCopy(t, around(f, last, looked), cut)
			checkCopy(t, around(f, last, looked+5), cut)
			checkCopy(t, around(f, last, looked-1), around(f, bare(last), looked-1))
		}
		checkCopy(t, around(f, many(3), looked-1), around(f, many(3), looked-1))
	}
	// All else that stands beside it is there.
	wide := func(l []api.Call) []api.Call {
		return one(val(num(1)), api.Arg{Kind: api.ArgChain, V: num(2), P: eq(3), C: l, S: "x"}, asked(eq(1)))
	}
	checkCopy(t, around(wide, many(2), looked), around(wide, nil, looked))
	checkCopy(t, around(wide, many(2), looked-1), around(wide, many(2), looked-1))
}

// Predicates and values are as pred.Copy and value.Copy make them.
func TestCopyDeepValuesAndPreds(t *testing.T) {
	for _, v := range []api.Value{within(num(1), api.MaxDepth-1), within(num(1), api.MaxDepth+1), within(num(1), 500), endlessList(1)} {
		checkCopy(t, one(val(v)), one(val(value.Copy(v))))
	}
	for _, p := range []api.Pred{nots(eq(1), api.MaxDepth-1), nots(eq(1), api.MaxDepth), nots(eq(1), 500), endlessPred(api.Not, 1), of(api.Eq, endlessList(1))} {
		checkCopy(t, one(asked(p)), one(asked(pred.Copy(p))))
	}
}

// What is in itself has a copy that ends.
func TestCopyOfWhatIsInItself(t *testing.T) {
	checkCopy(t, inItself(1, 1), around(arounds()[0], nil, looked))
	both := func(l []api.Call) []api.Call { return one(sub(l...), sub(l...)) }
	checkCopy(t, inItself(1, 2), around(both, nil, looked))
	if l := tree.Copy(inItself(2, 1)); plainNest(l) != looked || len(l) != 2 {
		t.Error(show(l))
	}
}
