package parser_test

import (
	"math/rand"
	"slices"
	"strings"
	"testing"

	"wayfarer/api"
	"wayfarer/parser"
	"wayfarer/tree"
)

// anyText: bytes that may be written, those among them that are written in
// another way.
func anyText(r *rand.Rand) string {
	b := make([]byte, r.Intn(6))
	for i := range b {
		if b[i] = "'\\ ,)]n~\x7f"[r.Intn(9)]; r.Intn(3) == 0 {
			b[i] = byte(32 + r.Intn(224))
		}
	}
	return string(b)
}

func anyValue(r *rand.Rand, deep int) api.Value {
	switch n := r.Intn(10); {
	case n < 2:
		return flag(n == 0)
	case n < 5:
		return num([]int{0, 1, -1, 10, api.MinInt, api.MaxInt, int(r.Uint64())}[r.Intn(7)])
	case n < 8 || deep <= 1:
		return text(anyText(r))
	}
	return list(some(r, 0, 3, func() api.Value { return anyValue(r, deep-1) })...)
}

func anyPred(r *rand.Rand, deep int) api.Pred {
	values := func(least, most int) []api.Value {
		return some(r, least, most, func() api.Value { return anyValue(r, 3) })
	}
	preds := func(least, most int) []api.Pred {
		return some(r, least, most, func() api.Pred { return anyPred(r, deep-1) })
	}
	kinds := api.Or
	if deep <= 1 {
		kinds = api.Without
	}
	switch kind := 1 + r.Intn(kinds); {
	case kind <= api.Gte:
		return of(kind, values(1, 1)...)
	case kind <= api.Outside:
		return of(kind, values(2, 2)...)
	case kind <= api.Without:
		return of(kind, values(0, 3)...)
	case kind == api.Not:
		return made(kind, preds(1, 1)...)
	default:
		return made(kind, preds(2, 3)...)
	}
}

func anyArg(r *rand.Rand, deep int) api.Arg {
	switch n := r.Intn(8); {
	case n < 2:
		return val(anyValue(r, 4))
	case n < 4:
		return asked(anyPred(r, 4))
	case n < 5 || deep <= 1:
		return word(goodNames()[r.Intn(len(goodNames()))])
	}
	return sub(anyChain(r, deep-1)...)
}

func anyChain(r *rand.Rand, deep int) []api.Call {
	return some(r, 1, 3, func() api.Call {
		return call(goodNames()[r.Intn(len(goodNames()))], some(r, 0, 2, func() api.Arg { return anyArg(r, deep) })...)
	})
}

func some[T any](r *rand.Rand, least, most int, one func() T) []T {
	var l []T
	for range least + r.Intn(most-least+1) {
		l = append(l, one())
	}
	return l
}

// checkBack: l's text is read as l, and printed as it was.
func checkBack(t *testing.T, l []api.Call) {
	t.Helper()
	s, e := tree.Print(l)
	if e != api.OK || len(s) > api.MaxQuery {
		t.Errorf("%s: %d, %d bytes", showChain(l), e, len(s))
		return
	}
	checkParse(t, s, l...)
	checkRound(t, s, s)
	back, _, _ := parser.Parse([]byte(s))
	if !tree.Same(back, l) {
		t.Errorf("%s is read as %s", showChain(l), showChain(back))
	}
}

func TestATreesTextIsReadAsIt(t *testing.T) {
	r := rand.New(rand.NewSource(1))
	seen, deepest := 0, 0
	for range 5000 {
		l := anyChain(r, 1+r.Intn(api.MaxNest))
		if s, e := tree.Print(l); e == api.OK && len(s) <= api.MaxQuery {
			checkBack(t, l)
			seen++
			deepest = max(deepest, tree.Nest(l))
		}
	}
	if seen < 4000 || deepest < api.MaxNest {
		t.Error("few chains, or none that is deep:", seen, deepest)
	}
}

// Chains that are as great as may be.
func TestTheGreatestTreesAreReadAsTheyAre(t *testing.T) {
	zeros := slices.Repeat([]api.Value{num(0)}, api.MaxItems)
	checkBack(t, slices.Repeat(one(), api.MaxCalls))
	checkBack(t, tower(api.MaxNest))
	checkBack(t, one(slices.Repeat([]api.Arg{word(letters(api.MaxName))}, api.MaxArgs)...))
	checkBack(t, chain(call(letters(api.MaxName), val(list(zeros...)), asked(of(api.Without, zeros...)))))
	checkBack(t, one(asked(made(api.And, slices.Repeat([]api.Pred{eq(1)}, api.MaxItems)...))))
	checkBack(t, one(asked(nots(of(api.Outside, within(list(), api.MaxDepth-1), within(num(1), api.MaxDepth-1)), api.MaxDepth-1))))
	checkBack(t, one(val(text(strings.Repeat(`'`, api.MaxText))), val(text(strings.Repeat(`\`, api.MaxText)))))
}

// What is read, printed, and read again, is the same.
func TestReadPrintedAndReadAgain(t *testing.T) {
	r := rand.New(rand.NewSource(4))
	for range 2000 {
		s, e := tree.Print(anyChain(r, 1+r.Intn(4)))
		if e != api.OK || 2*len(s) > api.MaxQuery {
			continue
		}
		q := spaced(r, tokensOf(s))
		a, _, _ := parser.Parse([]byte(q))
		printed, place, e := parser.Round([]byte(q))
		b, _, _ := parser.Parse([]byte(printed))
		if !alike(a, b) || len(a) == 0 || printed != s || place != 0 || e != api.OK {
			t.Errorf("%s is read as %s, and printed as %s", show(q), showChain(a), show(printed))
		}
	}
}
