package tree_test

import (
	"maps"
	"math/rand"
	"slices"
	"strings"
	"testing"

	"wayfarer/api"
	"wayfarer/tree"
)

func TestPrint(t *testing.T) {
	checkPrint(t, chain(
		call("V"),
		call("has", val(text("age")), asked(of(api.Gt, num(30)))),
		call("where", sub(call("out", val(text("knows"))), call("is", asked(of(api.Neq, num(2)))))),
		call("order", word("asc")),
	), "g.V().has('age', gt(30)).where(__.out('knows').is(neq(2))).order(asc)")
	checkPrint(t, one(), "g.a()")
	checkPrint(t, many(3), "g.a().a().a()")
	checkPrint(t, chain(call("V"), call("_x9"), call("not"), call("true"), call("g")), "g.V()._x9().not().true().g()")
	checkPrint(t, one(val(num(1))), "g.a(1)")
	checkPrint(t, one(val(num(1)), val(num(1)), word("b")), "g.a(1, 1, b)")
	checkPrint(t, one(word("desc")), "g.a(desc)")
	checkPrint(t, one(word("g"), word("_"), word("True")), "g.a(g, _, True)")
	checkPrint(t, one(sub(one()...)), "g.a(__.a())")
	checkPrint(t, one(sub(many(2)...), sub(call("b", word("x")))), "g.a(__.a().a(), __.b(x))")
	checkPrint(t, one(word("x"), sub(call("b", sub(call("c", sub(call("d", val(num(-1)))))), val(list()))), word("y")), "g.a(x, __.b(__.c(__.d(-1)), []), y)")
	checkPrint(t, chain(call("a", sub(one()...)), call("b")), "g.a(__.a()).b()")
	checkPrint(t, one(val(num(1)), asked(eq(2)), sub(call("b")), word("c")), "g.a(1, eq(2), __.b(), c)")
}

func TestPrintValues(t *testing.T) {
	for want, v := range values() {
		checkPrint(t, one(val(v)), "g.a("+want+")")
		checkPrint(t, one(val(v), word("x"), val(v)), "g.a("+want+", x, "+want+")")
		checkPrint(t, one(asked(of(api.Lte, v))), "g.a(lte("+want+"))")
		checkPrint(t, one(asked(of(api.Without, v, num(1), v))), "g.a(without("+want+", 1, "+want+"))")
		checkPrint(t, one(sub(one(val(v))...)), "g.a(__.a("+want+"))")
	}
}

func TestPrintPreds(t *testing.T) {
	for want, p := range predicates() {
		checkPrint(t, one(asked(p)), "g.a("+want+")")
		checkPrint(t, one(asked(p), word("x"), asked(p)), "g.a("+want+", x, "+want+")")
		checkPrint(t, one(sub(one(asked(p))...)), "g.a(__.a("+want+"))")
	}
	// The names of all kinds, as they are numbered.
	for i, name := range taken()[3:] {
		kind := i + 1
		switch {
		case kind <= api.Gte:
			checkPrint(t, one(asked(of(kind, num(1)))), "g.a("+name+"(1))")
		case kind <= api.Without:
			checkPrint(t, one(asked(of(kind, num(1), num(2)))), "g.a("+name+"(1, 2))")
		case kind == api.Not:
			checkPrint(t, one(asked(made(kind, eq(1)))), "g.a("+name+"(eq(1)))")
		default:
			checkPrint(t, one(asked(made(kind, eq(1), eq(2)))), "g.a("+name+"(eq(1), eq(2)))")
		}
	}
}

func TestPrintAtTheLimits(t *testing.T) {
	checkPrint(t, many(api.MaxCalls), "g"+strings.Repeat(".a()", api.MaxCalls))
	checkPrint(t, tower(api.MaxNest), "g.a("+strings.Repeat("__.a(", api.MaxNest-1)+strings.Repeat(")", api.MaxNest))
	checkPrint(t, one(slices.Repeat([]api.Arg{word("x")}, api.MaxArgs)...), "g.a("+strings.Repeat("x, ", api.MaxArgs-1)+"x)")
	checkPrint(t, one(asked(made(api.Or, slices.Repeat([]api.Pred{eq(1)}, api.MaxItems)...))), "g.a(or("+strings.Repeat("eq(1), ", api.MaxItems-1)+"eq(1)))")
	name := letters(api.MaxName)
	checkPrint(t, chain(call(name, word(name))), "g."+name+"("+name+")")
}

// checkBack: the text of l is read as l.
func checkBack(t *testing.T, l []api.Call) string {
	t.Helper()
	s, e := tree.Print(l)
	back, ok := read(s)
	if e != api.OK || !ok || !alike(back, l) || !tree.Same(back, l) {
		t.Errorf("Print(%s) = %.300q, %d; and that is %s, %v", show(l), s, e, show(back), ok)
	}
	return s
}

// args: one argument of each of many shapes, no two of which are the same.
func args() []api.Arg {
	var l []api.Arg
	for _, s := range slices.Sorted(maps.Keys(values())) {
		l = append(l, val(values()[s]))
	}
	for _, s := range slices.Sorted(maps.Keys(predicates())) {
		l = append(l, asked(predicates()[s]))
	}
	for _, s := range goodNames() {
		l = append(l, word(s))
	}
	for n := 1; n <= 3; n++ {
		l = append(l, sub(many(n)...), sub(tower(n+1)...), sub(one(word("x"))...))
		l[len(l)-1].C[0].Name += letters(n)
	}
	return append(l, sub(call("not")), sub(call("eq", val(num(1)))), sub(call("true")))
}

// smallChains: all chains of a call with at most two of some arguments, and of
// two calls with at most one.
func smallChains() [][]api.Call {
	l := [][]api.Call{one(), chain(call("b")), chain(call("a"), call("b"))}
	for _, x := range args() {
		l = append(l, one(x), chain(call("b", x)), one(sub(one(x)...), x), one(sub(one(sub(one(x)...))...)))
		l = append(l, chain(call("a"), call("a", x)), chain(call("a", x), call("a")))
		for _, y := range args() {
			l = append(l, one(x, y), chain(call("a", x), call("a", y)), one(sub(one(x, y)...)), one(sub(one(x)...), sub(one(y)...)))
		}
	}
	return l
}

// Two chains that are not the same have two texts, and each is read as it was.
func TestTwoChainsHaveTwoTexts(t *testing.T) {
	chains := map[string][]api.Call{}
	for _, l := range smallChains() {
		s := checkBack(t, l)
		if other, ok := chains[s]; ok && !alike(l, other) {
			t.Errorf("%s and %s are both %.300q", show(l), show(other), s)
		}
		chains[s] = l
	}
	if len(chains) < 10000 {
		t.Error(len(chains))
	}
}

// Those that would look alike, if quotes, commas or names were taken lightly.
func TestLookalikes(t *testing.T) {
	l := [][]api.Call{
		one(val(text("a', 'b"))), one(val(text("a")), val(text("b"))), one(val(text("a\\', \\'b"))), one(val(text("a\\")), val(text("b"))),
		one(val(list(text("a"), text("b")))), one(val(list(text("a, b")))), one(val(list(text("a', 'b")))), one(val(list(list(text("a")), text("b")))), one(val(list(text("a"), list(text("b"))))),
		one(val(num(1)), val(num(2))), one(val(num(12))), one(val(list(num(1), num(2)))), one(val(text("1, 2"))), one(val(text("1"))), one(val(num(1))), one(val(num(-1))), one(val(flag(true))),
		one(val(list())), one(val(list(list()))), one(), one(val(text(""))), one(val(list()), val(list())), one(val(list(list(), list()))), one(val(text("[]"))),
		one(word("True")), one(val(text("true"))), one(val(flag(false))), one(val(num(0))), one(word("a")), one(val(text("a"))),
		one(asked(eq(1))), one(sub(call("eq", val(num(1))))), one(val(text("eq(1)"))), one(word("eq_"), val(num(1))),
		one(asked(of(api.Within, num(1), num(2)))), one(asked(of(api.Within, list(num(1), num(2))))), one(asked(of(api.Within, num(1))), val(num(2))), one(asked(of(api.Within)), val(num(1)), val(num(2))), one(asked(of(api.Without, num(1), num(2)))),
		one(asked(of(api.Within))), one(asked(of(api.Within, list()))), one(asked(of(api.Within, text("")))), one(asked(of(api.Without))),
		one(asked(made(api.And, eq(1), eq(2)))), one(asked(made(api.Or, eq(1), eq(2)))), one(asked(eq(1)), asked(eq(2))), one(asked(made(api.And, eq(1), made(api.And, eq(2), eq(3))))), one(asked(made(api.And, made(api.And, eq(1), eq(2)), eq(3)))), one(asked(made(api.And, eq(1), eq(2), eq(3)))),
		one(sub(many(2)...)), one(sub(one()...), sub(one()...)), one(sub(one(sub(one()...))...)), chain(call("a", sub(one()...)), call("a")), chain(call("a"), call("a", sub(one()...))), many(2), many(3), one(sub(call("g"))), one(word("g"), sub(one()...)), one(val(text("__.a()"))),
		one(val(text("\x80"))), one(val(text("\\x80"))), one(val(text("\xc2\x80"))), one(val(text("\x7f"))), one(val(text("\xff"))),
		chain(call("aa")), chain(call("a_a")), chain(call("g"), call("a")), chain(call("a"), call("g")),
	}
	texts := map[string]bool{}
	for i, x := range l {
		texts[checkBack(t, x)] = true
		for j, y := range l {
			checkSame(t, x, y, i == j)
		}
	}
	if len(texts) != len(l) {
		t.Error(len(texts), "texts of", len(l))
	}
}

// anyText: bytes that may be written, those among them that are written in
// another way.
func anyText(r *rand.Rand) string {
	b := make([]byte, r.Intn(6))
	for i := range b {
		if b[i] = "'\\ ,)]n~\x7f"[r.Intn(9)]; r.Intn(3) == 0 {
			b[i] = byte(32 + r.Intn(224))
		}
	}
	return string(b)
}

func anyValue(r *rand.Rand, deep int) api.Value {
	switch n := r.Intn(10); {
	case n < 2:
		return flag(n == 0)
	case n < 5:
		return num([]int{0, 1, -1, 10, api.MinInt, api.MaxInt, int(r.Uint64())}[r.Intn(7)])
	case n < 8 || deep <= 1:
		return text(anyText(r))
	}
	return list(some(r, 0, 3, func() api.Value { return anyValue(r, deep-1) })...)
}

func anyPred(r *rand.Rand, deep int) api.Pred {
	values := func(least, most int) []api.Value {
		return some(r, least, most, func() api.Value { return anyValue(r, 3) })
	}
	preds := func(least, most int) []api.Pred {
		return some(r, least, most, func() api.Pred { return anyPred(r, deep-1) })
	}
	kinds := api.Or
	if deep <= 1 {
		kinds = api.Without
	}
	switch kind := 1 + r.Intn(kinds); {
	case kind <= api.Gte:
		return of(kind, values(1, 1)...)
	case kind <= api.Outside:
		return of(kind, values(2, 2)...)
	case kind <= api.Without:
		return of(kind, values(0, 3)...)
	case kind == api.Not:
		return made(kind, preds(1, 1)...)
	default:
		return made(kind, preds(2, 3)...)
	}
}

func anyArg(r *rand.Rand, deep int) api.Arg {
	switch n := r.Intn(8); {
	case n < 2:
		return val(anyValue(r, 4))
	case n < 4:
		return asked(anyPred(r, 4))
	case n < 5 || deep <= 1:
		return word(goodNames()[r.Intn(len(goodNames()))])
	}
	return sub(anyChain(r, deep-1)...)
}

func anyChain(r *rand.Rand, deep int) []api.Call {
	return some(r, 1, 3, func() api.Call {
		return call(goodNames()[r.Intn(len(goodNames()))], some(r, 0, 2, func() api.Arg { return anyArg(r, deep) })...)
	})
}

func some[T any](r *rand.Rand, least, most int, one func() T) []T {
	var l []T
	for range least + r.Intn(most-least+1) {
		l = append(l, one())
	}
	return l
}

// plainNest: how deep l is; l is not in itself.
func plainNest(l []api.Call) int {
	deep := 0
	for _, c := range l {
		for _, a := range c.Args {
			if len(a.C) > 0 {
				deep = max(deep, plainNest(a.C))
			}
		}
	}
	return deep + 1
}

func TestAnyChain(t *testing.T) {
	r := rand.New(rand.NewSource(1))
	deepest := 0
	for range 5000 {
		l := anyChain(r, 1+r.Intn(api.MaxNest))
		nest, calls := plainNest(l), plainCalls(l, 1)
		checkSize(t, l, nest, min(calls, api.MaxCalls+1))
		checkCopy(t, l, l)
		checkSame(t, l, tree.Copy(l), true)
		if calls > api.MaxCalls {
			checkCheck(t, l, api.ErrArg)
			continue
		}
		checkCheck(t, l, api.OK)
		checkBack(t, l)
		deepest = max(deepest, nest)
	}
	if deepest < api.MaxNest {
		t.Error("no deep chains:", deepest)
	}
}
