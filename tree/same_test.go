package tree_test

import (
	"testing"

	"wayfarer/api"
	"wayfarer/tree"
)

// odd: what is no chain, no two of which are the same.
func odd() [][]api.Call {
	l := [][]api.Call{nil, chain(api.Call{}), chain(call(""), call("")), chain(call("__")), chain(call("9")), one(sub()), one(sub(), sub()), one(word("")), one(word("eq"))}
	for kind := -1; kind <= 5; kind++ {
		for _, a := range fields() {
			if a.Kind = kind; len(a.C) > 0 || kind == api.ArgPred || a.S != "" {
				l = append(l, chain(call("odd", a)))
			}
		}
	}
	return l
}

func TestSame(t *testing.T) {
	var all [][]api.Call
	for _, a := range args() {
		all = append(all, one(a), one(a, word("x")), chain(call("b", a)), one(sub(one(a)...), word("y")))
	}
	all = append(all, odd()...)
	for i, a := range all {
		checkSame(t, a, a, true)
		checkSame(t, a, tree.Copy(a), true)
		for j, b := range all {
			if tree.Same(a, b) != (i == j) {
				t.Errorf("Same(%s, %s) is %v", show(a), show(b), i != j)
			}
		}
	}
}

// Two chains that differ in one place, wherever that place is.
func TestSameButForOnePlace(t *testing.T) {
	base := func() []api.Call {
		return chain(call("a"), call("b", val(list(num(1), text("x"))), asked(made(api.And, eq(1), of(api.Within, num(2), num(3))))),
			call("c", sub(call("d", word("x")), call("e", sub(call("f"))))))
	}
	for i, change := range []func(l []api.Call){
		func(l []api.Call) { l[0].Name = "b" },
		func(l []api.Call) { l[1].Name = "B" },
		func(l []api.Call) { l[2].Name = "" },
		func(l []api.Call) { l[0].Args = []api.Arg{{}} },
		func(l []api.Call) { l[1].Args = l[1].Args[:1] },
		func(l []api.Call) { l[1].Args = append(l[1].Args, word("x")) },
		func(l []api.Call) { l[1].Args[0], l[1].Args[1] = l[1].Args[1], l[1].Args[0] },
		func(l []api.Call) { l[1].Args[0].Kind = api.ArgWord },
		func(l []api.Call) { l[1].Args[0].S = "x" },
		func(l []api.Call) { l[1].Args[0].P = eq(1) },
		func(l []api.Call) { l[1].Args[0].C = one() },
		func(l []api.Call) { l[1].Args[0].V.Kind = api.Path },
		func(l []api.Call) { l[1].Args[0].V.N = 1 },
		func(l []api.Call) { l[1].Args[0].V.L[0].N = 2 },
		func(l []api.Call) { l[1].Args[0].V.L[1].S = "X" },
		func(l []api.Call) { l[1].Args[0].V.L[1] = list(text("x")) },
		func(l []api.Call) { l[1].Args[0].V.L = l[1].Args[0].V.L[:1] },
		func(l []api.Call) { l[1].Args[0].V.M = vals(num(1)) },
		func(l []api.Call) { l[1].Args[1].V = num(1) },
		func(l []api.Call) { l[1].Args[1].P.Kind = api.Or },
		func(l []api.Call) { l[1].Args[1].P.V = vals(num(1)) },
		func(l []api.Call) { l[1].Args[1].P.P[0].Kind = api.Neq },
		func(l []api.Call) { l[1].Args[1].P.P[0].V[0].N = 2 },
		func(l []api.Call) { l[1].Args[1].P.P[1].V = vals(num(2)) },
		func(l []api.Call) { l[1].Args[1].P.P[1].V = vals(num(3), num(2)) },
		func(l []api.Call) { l[1].Args[1].P.P = append(l[1].Args[1].P.P, eq(1)) },
		func(l []api.Call) { l[2].Args[0].Kind = 0 },
		func(l []api.Call) { l[2].Args[0].C = l[2].Args[0].C[:1] },
		func(l []api.Call) { l[2].Args[0].C = nil },
		func(l []api.Call) { l[2].Args[0].C[0].Name = "D" },
		func(l []api.Call) { l[2].Args[0].C[0].Args[0].S = "y" },
		func(l []api.Call) { l[2].Args[0].C[1].Args[0].C[0].Name = "F" },
		func(l []api.Call) { l[2].Args[0].C[1].Args[0].C[0].Args = []api.Arg{word("x")} },
	} {
		l := base()
		change(l)
		if tree.Same(l, base()) || tree.Same(base(), l) || alike(l, base()) {
			t.Error(i, "is the same:", show(l))
		}
		checkSame(t, l, tree.Copy(l), true)
	}
	checkSame(t, base(), base(), true)
	checkSame(t, base(), base()[:2], false)
	checkSame(t, base(), base()[1:], false)
	checkSame(t, base(), append(base(), call("a")), false)
}

// A chain within more than MaxNest of those within l counts for nothing.
func TestSameDeep(t *testing.T) {
	for _, f := range arounds() {
		for height := 1; height <= looked+4; height++ {
			seen := height <= looked
			a, b := around(f, one(), height-1), around(f, chain(call("z")), height-1)
			checkSame(t, a, b, !seen)
			checkSame(t, a, around(f, one(word("x")), height-1), !seen)
			checkSame(t, a, around(f, many(2), height-1), !seen)
			if height > 1 {
				checkSame(t, a, around(f, nil, height-1), !seen)
			}
			checkSame(t, a, tree.Copy(a), true)
		}
		// The argument that a chain is that counts for nothing is seen for all
		// that.
		a, b := around(f, one(sub(one()...)), looked-1), around(f, one(word("x")), looked-1)
		checkSame(t, a, b, false)
		checkSame(t, a, around(f, one(), looked-1), false)
		checkSame(t, a, around(f, one(sub(one()...), sub(one()...)), looked-1), false)
		checkSame(t, a, around(f, one(sub()), looked-1), true)
	}
	checkSame(t, tower(looked+1), tower(looked), false)
	checkSame(t, tower(looked+1), tower(looked+2), true)
	checkSame(t, tower(5000), tower(6000), true)
}

func TestSameOfWhatIsInItself(t *testing.T) {
	l := inItself(1, 1)
	checkSame(t, l, l, true)
	checkSame(t, l, inItself(1, 1), true)
	checkSame(t, inItself(2, 1), inItself(2, 1), true)
	checkSame(t, l, inItself(2, 1), false)
	checkSame(t, l, tower(looked), false)
	checkSame(t, l, tower(looked+1), true)
	checkSame(t, l, tree.Copy(l), true)
	checkSame(t, inItself(api.MaxCalls, api.MaxArgs), inItself(api.MaxCalls, api.MaxArgs+1), false)
	checkSame(t, one(val(endlessList(1))), one(val(endlessList(1))), true)
	checkSame(t, one(val(endlessList(1))), one(val(within(num(1), 5))), false)
}
