package parser_test

import (
	"slices"
	"strconv"
	"strings"
	"testing"

	"wayfarer/api"
	"wayfarer/parser"
	"wayfarer/tree"
	"wayfarer/value"
)

// Short names for what the tests are made of.
var (
	num  = value.Number
	text = value.Word
	flag = value.Truth
)

func list(l ...api.Value) api.Value { return api.Value{Kind: api.List, L: l} }

func of(kind int, l ...api.Value) api.Pred { return api.Pred{Kind: kind, V: l} }

func made(kind int, l ...api.Pred) api.Pred { return api.Pred{Kind: kind, P: l} }

func not(p api.Pred) api.Pred { return made(api.Not, p) }

func eq(n int) api.Pred { return of(api.Eq, num(n)) }

// The four kinds of arguments.
func val(v api.Value) api.Arg { return api.Arg{Kind: api.ArgValue, V: v} }

func asked(p api.Pred) api.Arg { return api.Arg{Kind: api.ArgPred, P: p} }

func sub(l ...api.Call) api.Arg { return api.Arg{Kind: api.ArgChain, C: l} }

func word(s string) api.Arg { return api.Arg{Kind: api.ArgWord, S: s} }

func call(name string, l ...api.Arg) api.Call { return api.Call{Name: name, Args: l} }

func chain(l ...api.Call) []api.Call { return l }

// one: a chain of one call with these arguments.
func one(l ...api.Arg) []api.Call { return chain(call("a", l...)) }

func letters(n int) string { return strings.Repeat("a", n) }

// row: s, so many times, with commas between.
func row(s string, times int) string {
	return strings.TrimSuffix(strings.Repeat(s+",", times), ",")
}

// around: so often that, the middle, and so often the other one.
func around(first string, times int, middle, last string) string {
	return strings.Repeat(first, times) + middle + strings.Repeat(last, times)
}

// within: v in so many lists, one around the other.
func within(v api.Value, lists int) api.Value {
	for range lists {
		v = list(v)
	}
	return v
}

// nots: so many Nots around p.
func nots(p api.Pred, times int) api.Pred {
	for range times {
		p = not(p)
	}
	return p
}

// tower: so many chains within one another, each of one call.
func tower(height int) []api.Call {
	l := one()
	for range height - 1 {
		l = one(sub(l...))
	}
	return l
}

// taken: the words that no word may be; behind the first three those of
// predicates, as their kinds are numbered.
func taken() []string {
	return strings.Fields("true false __ eq neq lt lte gt gte between inside outside within without not and or")
}

// goodNames: what a call's name may be, and a word, too.
func goodNames() []string {
	return []string{
		"a", "Z", "_", "___", "_1", "a9", "asc", "desc", "V", "g", "G", "True", "FALSE", "nots", "no", "eq_", "EQ", "withins", "_and", "_or_", "__x", "x__",
		letters(api.MaxName),
	}
}

// alike: are they the same, field by field?
func alike(a, b []api.Call) bool {
	return slices.EqualFunc(a, b, func(x, y api.Call) bool {
		return x.Name == y.Name && slices.EqualFunc(x.Args, y.Args, alikeArgs)
	})
}

func alikeArgs(x, y api.Arg) bool {
	return x.Kind == y.Kind && x.S == y.S && alikeValues(x.V, y.V) && alikePreds(x.P, y.P) && alike(x.C, y.C)
}

func alikeValues(v, w api.Value) bool {
	return v.Kind == w.Kind && v.N == w.N && v.S == w.S &&
		slices.EqualFunc(v.L, w.L, alikeValues) && slices.EqualFunc(v.M, w.M, alikeValues)
}

func alikePreds(p, q api.Pred) bool {
	return p.Kind == q.Kind && slices.EqualFunc(p.V, q.V, alikeValues) && slices.EqualFunc(p.P, q.P, alikePreds)
}

func show(q string) string {
	if len(q) > 160 {
		return strconv.Quote(q[:80]) + " .. " + strconv.Quote(q[len(q)-80:])
	}
	return strconv.Quote(q)
}

func showChain(l []api.Call) string {
	s, e := tree.Print(l)
	if e != api.OK {
		return "what is no chain"
	}
	return show(s)
}

// checkParse: q is that chain.
func checkParse(t *testing.T, q string, want ...api.Call) {
	t.Helper()
	l, place, e := parser.Parse([]byte(q))
	if !alike(l, want) || place != 0 || e != api.OK {
		t.Errorf("Parse(%s) = %s, %d, %d; want %s", show(q), showChain(l), place, e, showChain(want))
	}
	s, _ := tree.Print(want)
	checkRound(t, q, s)
}

// checkRound: q is read, and printed as that.
func checkRound(t *testing.T, q, want string) {
	t.Helper()
	if s, place, e := parser.Round([]byte(q)); s != want || place != 0 || e != api.OK {
		t.Errorf("Round(%s) = %s, %d, %d; want %s", show(q), show(s), place, e, show(want))
	}
}

// checkTold: q is wrong at that place, and nothing comes of it.
func checkTold(t *testing.T, q string, place int, why api.Errno) {
	t.Helper()
	if l, at, e := parser.Parse([]byte(q)); len(l) != 0 || at != place || e != why {
		t.Errorf("Parse(%s) = %s, %d, %d; want %d at %d", show(q), showChain(l), at, e, why, place)
	}
	if s, at, e := parser.Round([]byte(q)); s != "" || at != place || e != why {
		t.Errorf("Round(%s) = %s, %d, %d; want %d at %d", show(q), show(s), at, e, why, place)
	}
}

// checkWrong: what stands between ahead and behind is what is wrong.
func checkWrong(t *testing.T, ahead, wrong, behind string) {
	t.Helper()
	checkTold(t, ahead+wrong+behind, len(ahead), api.ErrText)
}

// checkLong: what stands between ahead and behind is one too many.
func checkLong(t *testing.T, ahead, long, behind string) {
	t.Helper()
	checkTold(t, ahead+long+behind, len(ahead), api.ErrLong)
}

// checkEnd: tokens are missing where q ends.
func checkEnd(t *testing.T, q string) {
	t.Helper()
	checkTold(t, q, len(q), api.ErrText)
}
