package tree_test

import (
	"slices"
	"testing"

	"wayfarer/api"
	"wayfarer/tree"
)

func TestCheckNames(t *testing.T) {
	for _, s := range slices.Concat(goodNames(), taken()) {
		if s == "__" {
			continue
		}
		checkCheck(t, chain(call(s)), api.OK)
		checkCheck(t, chain(call("a"), call(s, val(num(1)))), api.OK)
		checkCheck(t, one(sub(call(s))), api.OK)
	}
	for _, s := range append(noNames(), "__") {
		checkWrong(t, chain(call(s)))
		checkWrong(t, chain(call("a"), call(s)))
		checkWrong(t, chain(call(s, val(num(1))), call("a")))
		checkWrongArg(t, sub(call("a"), call(s)))
	}
}

func TestCheckWords(t *testing.T) {
	for _, s := range goodNames() {
		checkCheck(t, one(word(s)), api.OK)
		checkCheck(t, one(val(num(1)), word(s), word(s)), api.OK)
	}
	for _, s := range slices.Concat(noNames(), taken()) {
		checkWrongArg(t, word(s))
	}
}

// Each byte, alone, first, and behind a letter.
func TestCheckNamesByteByByte(t *testing.T) {
	for i := range 256 {
		c := byte(i)
		letter := c >= 'a' && c <= 'z' || c >= 'A' && c <= 'Z' || c == '_'
		for s, good := range map[string]bool{
			string([]byte{c}):      letter,
			string([]byte{c, 'a'}): letter,
			string([]byte{'a', c}): letter || c >= '0' && c <= '9',
		} {
			e := api.OK
			if !good {
				e = api.ErrArg
			}
			checkCheck(t, chain(call(s)), e)
			checkCheck(t, one(word(s)), e)
		}
	}
}

func TestCheckNothing(t *testing.T) {
	checkWrong(t, nil)
	checkWrong(t, []api.Call{})
	checkWrong(t, chain(api.Call{}))
	checkWrongArg(t, sub())
	checkWrongArg(t, api.Arg{Kind: api.ArgChain, C: []api.Call{}})
	checkWrongArg(t, api.Arg{})
}

func TestCheckValues(t *testing.T) {
	for _, v := range values() {
		checkCheck(t, one(val(v)), api.OK)
		checkCheck(t, one(asked(of(api.Eq, v))), api.OK)
		checkCheck(t, one(asked(of(api.Within, num(1), v))), api.OK)
	}
	for _, v := range slices.Concat(unwritten(), noValues()) {
		checkWrongArg(t, val(v))
		checkWrongArg(t, val(list(v)))
		checkWrongArg(t, val(list(num(1), list(text("a"), v), num(1))))
		checkWrongArg(t, asked(of(api.Eq, v)))
		checkWrongArg(t, asked(of(api.Within, num(1), v)))
		checkWrongArg(t, asked(of(api.Between, v, num(1))))
		checkWrongArg(t, asked(of(api.Outside, num(1), v)))
		checkWrongArg(t, asked(of(api.Neq, list(list(v)))))
		checkWrongArg(t, asked(not(not(of(api.Gt, v)))))
		checkWrongArg(t, asked(made(api.And, eq(1), of(api.Lt, v))))
		checkWrongArg(t, asked(made(api.Or, of(api.Without, v), eq(1))))
	}
}

// Each byte, alone and between others.
func TestCheckTextsByteByByte(t *testing.T) {
	for i := range 256 {
		e := api.OK
		if i < 32 {
			e = api.ErrArg
		}
		for _, s := range []string{string([]byte{byte(i)}), string([]byte{'a', byte(i), 'b'}), letters(api.MaxText-1) + string([]byte{byte(i)})} {
			for _, a := range []api.Arg{val(text(s)), val(list(num(1), list(text(s)))), asked(of(api.Eq, text(s))), asked(not(of(api.Within, list(text(s)))))} {
				checkCheck(t, one(a), e)
			}
		}
	}
}

func TestCheckPreds(t *testing.T) {
	for _, p := range predicates() {
		checkCheck(t, one(asked(p)), api.OK)
		checkCheck(t, one(word("x"), asked(p), asked(p)), api.OK)
	}
	for _, p := range noPreds() {
		checkWrongArg(t, asked(p))
		checkWrongArg(t, asked(not(p)))
		checkWrongArg(t, asked(made(api.Or, eq(1), p)))
	}
}

// fields: an argument's four fields, with and without what is in them.
func fields() []api.Arg {
	var l []api.Arg
	for _, v := range []api.Value{{}, num(1), {N: 1}, {S: "a"}, {L: vals(num(1))}, {M: vals(num(1))}} {
		for _, p := range []api.Pred{{}, eq(1), {V: vals(num(1))}, {P: []api.Pred{eq(1)}}} {
			for _, c := range [][]api.Call{nil, one(), chain(api.Call{})} {
				for _, s := range []string{"", "x"} {
					l = append(l, api.Arg{V: v, P: p, C: c, S: s})
				}
			}
		}
	}
	return l
}

// Of each kind just one of all these may be an argument: the one that has the
// field of its kind, and no other.
func TestCheckFields(t *testing.T) {
	for kind, good := range map[int]api.Arg{
		api.ArgValue: val(num(1)), api.ArgPred: asked(eq(1)), api.ArgChain: sub(one()...), api.ArgWord: word("x"),
		0: {}, -1: {}, 5: {}, api.MinInt: {}, api.MaxInt: {},
	} {
		found := 0
		for _, a := range fields() {
			a.Kind = kind
			if alikeArgs(a, good) && kind >= api.ArgValue && kind <= api.ArgWord {
				checkCheck(t, one(a), api.OK)
				found++
				continue
			}
			checkWrongArg(t, a)
		}
		if good.Kind != 0 && found != 1 {
			t.Error(kind, found)
		}
	}
}

// A list that is empty is one that is nil.
func TestEmptyLists(t *testing.T) {
	none, noPred, noCall, noArg := []api.Value{}, []api.Pred{}, []api.Call{}, []api.Arg{}
	v, p := api.Value{L: none, M: none}, api.Pred{V: none, P: noPred}
	empty := one(
		api.Arg{Kind: api.ArgValue, V: api.Value{Kind: api.List, L: none, M: none}, P: p, C: noCall},
		api.Arg{Kind: api.ArgPred, V: v, P: api.Pred{Kind: api.Without, V: none, P: noPred}, C: noCall},
		api.Arg{Kind: api.ArgChain, V: v, P: p, C: chain(api.Call{Name: "a", Args: noArg})},
		api.Arg{Kind: api.ArgWord, V: v, P: p, C: noCall, S: "x"})
	without := one(val(list()), asked(of(api.Without)), sub(one()...), word("x"))
	checkPrint(t, empty, "g.a([], without(), __.a(), x)")
	checkPrint(t, without, "g.a([], without(), __.a(), x)")
	checkSame(t, empty, without, true)
	checkSame(t, nil, noCall, true)
	checkCopy(t, empty, without)
	checkCopy(t, noCall, nil)
	checkSize(t, empty, 2, 2)
}

func TestCheckMaxArgs(t *testing.T) {
	for _, a := range []api.Arg{val(num(1)), asked(eq(1)), word("x"), val(list(num(1)))} {
		most := slices.Repeat([]api.Arg{a}, api.MaxArgs)
		checkCheck(t, one(most...), api.OK)
		checkCheck(t, one(sub(one(most...)...)), api.OK)
		checkCheck(t, chain(call("a", most...), call("b", most...)), api.OK)
		checkWrong(t, one(append(most, a)...))
		checkWrong(t, chain(call("a"), call("b", append(most, a)...)))
		checkWrong(t, one(slices.Repeat(most, 100)...))
	}
	most := slices.Repeat([]api.Arg{sub(one()...)}, api.MaxArgs)
	checkCheck(t, one(most...), api.OK)
	checkWrong(t, one(append(most, sub(one()...))...))
	most[api.MaxArgs-1] = sub(one(most[:api.MaxArgs-1]...)...)
	checkCheck(t, one(most...), api.OK)
}

func TestCheckMaxNest(t *testing.T) {
	checkCheck(t, tower(api.MaxNest), api.OK)
	checkWrong(t, tower(api.MaxNest+1))
	for _, f := range arounds() {
		for _, last := range [][]api.Call{one(), one(val(num(1))), chain(call("a"), call("b", asked(eq(1)), word("x")))} {
			for height := 1; height <= api.MaxNest+3; height++ {
				l := around(f, last, height-1)
				if height <= api.MaxNest {
					checkCheck(t, l, api.OK)
				} else {
					checkWrong(t, l)
				}
			}
		}
		checkWrong(t, around(f, one(), 3000))
		// What is wrong at the deepest place is wrong.
		checkCheck(t, around(f, one(word("9")), api.MaxNest-1), api.ErrArg)
		checkCheck(t, around(f, one(sub()), api.MaxNest-1), api.ErrArg)
	}
	checkCheck(t, one(sub(one()...), sub(tower(api.MaxNest-1)...), sub(one()...)), api.OK)
	checkCheck(t, one(sub(one()...), sub(tower(api.MaxNest)...), sub(one()...)), api.ErrArg)
	checkCheck(t, chain(call("a"), call("b"), call("c", sub(tower(api.MaxNest)...))), api.ErrArg)
}

// spread: so many calls, in chains within one another and side by side.
func spread(n int) []api.Call {
	inside := n / 3
	l := many(n - 3*inside)
	if inside == 0 {
		return l
	}
	l = append(l, call("b", sub(many(inside)...), word("x"), sub(many(inside)...)))
	return append(l, many(inside-1)...)
}

func TestCheckMaxCalls(t *testing.T) {
	for _, n := range []int{1, 2, 3, 7, api.MaxCalls - 1, api.MaxCalls} {
		checkCheck(t, many(n), api.OK)
		checkCheck(t, spread(n), api.OK)
		checkSize(t, spread(n), tree.Nest(spread(n)), n)
	}
	for _, n := range []int{api.MaxCalls + 1, api.MaxCalls + 2, 3 * api.MaxCalls, 100000} {
		checkWrong(t, many(n))
		checkWrong(t, spread(n))
	}
	checkCheck(t, one(sub(many(api.MaxCalls-1)...)), api.OK)
	checkWrong(t, one(sub(many(api.MaxCalls)...)))
	checkCheck(t, append(one(sub(many(api.MaxCalls-2)...)), call("b")), api.OK)
	checkWrong(t, append(one(sub(many(api.MaxCalls-2)...)), call("b"), call("c")))
	checkCheck(t, around(arounds()[0], many(api.MaxCalls-api.MaxNest+1), api.MaxNest-1), api.OK)
	checkWrong(t, around(arounds()[0], many(api.MaxCalls-api.MaxNest+2), api.MaxNest-1))
}

// What is in itself is no chain, however wide it is.
func TestCheckOfWhatIsInItself(t *testing.T) {
	for _, calls := range []int{1, 2, api.MaxCalls, 1000} {
		for _, args := range []int{1, 2, api.MaxArgs, 1000} {
			checkCheck(t, inItself(calls, args), api.ErrArg)
			checkCheck(t, append(many(3), inItself(calls, args)...), api.ErrArg)
		}
	}
}

// Rows that are handed in for many places: far too many calls, taken along
// every way down.
func TestCheckOfRowsHandedInOften(t *testing.T) {
	l := one()
	for range api.MaxNest - 1 {
		l = chain(call("a", slices.Repeat([]api.Arg{sub(l...)}, api.MaxArgs)...), call("b", sub(l...)))
	}
	checkCheck(t, l, api.ErrArg)
	if n := tree.Calls(l); n != api.MaxCalls+1 {
		t.Error(n)
	}
}
