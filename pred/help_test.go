package pred_test

import (
	"fmt"
	"slices"
	"strconv"
	"strings"
	"testing"

	"wayfarer/api"
	"wayfarer/pred"
	"wayfarer/value"
)

// Short names for what the tests are made of.
var (
	num  = value.Number
	word = value.Word
)

func list(l ...api.Value) api.Value { return api.Value{Kind: api.List, L: l} }

func path(l ...api.Value) api.Value { return api.Value{Kind: api.Path, L: l} }

func dict(key, v api.Value) api.Value {
	return api.Value{Kind: api.Map, L: vals(key), M: vals(v)}
}

func vals(l ...api.Value) []api.Value { return l }

func of(kind int, l ...api.Value) api.Pred { return api.Pred{Kind: kind, V: l} }

func made(kind int, l ...api.Pred) api.Pred { return api.Pred{Kind: kind, P: l} }

func not(p api.Pred) api.Pred { return made(api.Not, p) }

func and(l ...api.Pred) api.Pred { return made(api.And, l...) }

func or(l ...api.Pred) api.Pred { return made(api.Or, l...) }

func eq(n int) api.Pred { return of(api.Eq, num(n)) }

func neq(n int) api.Pred { return of(api.Neq, num(n)) }

func gt(n int) api.Pred { return of(api.Gt, num(n)) }

func preds(l ...api.Pred) []api.Pred { return l }

// numbers: n rising ones, from 0 on.
func numbers(n int) []api.Value {
	var l []api.Value
	for i := range n {
		l = append(l, num(i))
	}
	return l
}

// rising: values of every kind, each ahead of the next one.
func rising() []api.Value {
	return []api.Value{
		value.Truth(false), value.Truth(true),
		num(api.MinInt), num(-1), num(0), num(1), num(2), num(api.MaxInt),
		word(""), word("1"), word("a"), word("ab"), word("b"), word(strings.Repeat("b", api.MaxText)),
		{Kind: api.Vertex}, {Kind: api.Vertex, N: 1}, {Kind: api.Vertex, N: api.MaxInt},
		{Kind: api.Edge}, {Kind: api.Edge, N: 1}, {Kind: api.Edge, N: api.MaxInt},
		list(), list(num(1)), list(num(1), num(0)), list(num(2)), list(word("a")), list(list(num(0))),
		{Kind: api.Map}, dict(num(1), num(1)), dict(num(1), num(2)), dict(word("a"), num(0)),
		path(), path(num(1)), path(num(1), num(1)), path(word("a")),
	}
}

// noValues: what is no value, at the top and deep inside.
func noValues() []api.Value {
	wrong := []api.Value{
		{}, {Kind: -1}, {Kind: 9}, {Kind: api.MinInt}, {Kind: api.MaxInt},
		{Kind: api.Bool, N: 2}, {Kind: api.Int, S: "a"}, {Kind: api.Int, N: 1, L: vals(num(1))},
		word(strings.Repeat("a", api.MaxText+1)),
		{Kind: api.Vertex, N: -1}, {Kind: api.Edge, N: -1},
		list(numbers(api.MaxItems + 1)...), {Kind: api.List, M: vals(num(1))},
		{Kind: api.Map, L: vals(num(1))}, {Kind: api.Map, L: vals(num(2), num(1)), M: vals(num(1), num(1))},
		within(num(1), api.MaxDepth), endless(1), endless(api.MaxItems),
	}
	for _, v := range slices.Clone(wrong) {
		wrong = append(wrong, list(v), list(num(1), list(path(num(1), v))), dict(num(1), v), dict(v, num(1)))
	}
	return wrong
}

// within: v in so many lists, one around the other.
func within(v api.Value, lists int) api.Value {
	for range lists {
		v = list(v)
	}
	return v
}

// endless: a list that lies within itself, so many times side by side.
func endless(wide int) api.Value {
	row := make([]api.Value, wide)
	for i := range row {
		row[i] = list(row...)
	}
	return row[0]
}

// inItself: a predicate that is in itself, so many times side by side.
func inItself(kind, wide int) api.Pred {
	row := make([]api.Pred, wide)
	for i := range row {
		row[i] = made(kind, row...)
	}
	return row[0]
}

// arounds: the ways in which a predicate is around another one.
func arounds() []func(api.Pred) api.Pred {
	return []func(api.Pred) api.Pred{
		not,
		func(p api.Pred) api.Pred { return and(p, eq(1)) },
		func(p api.Pred) api.Pred { return and(eq(1), p) },
		func(p api.Pred) api.Pred { return or(p, eq(1)) },
		func(p api.Pred) api.Pred { return or(eq(1), eq(2), p) },
	}
}

// around: f, so many times, around p.
func around(f func(api.Pred) api.Pred, p api.Pred, times int) api.Pred {
	for range times {
		p = f(p)
	}
	return p
}

// simple: predicates of every kind that are made of values.
func simple() []api.Pred {
	return []api.Pred{
		eq(1), neq(1),
		of(api.Lt, num(1)), of(api.Lte, num(1)), gt(1), of(api.Gte, num(1)),
		of(api.Between, num(0), num(2)), of(api.Inside, num(0), num(2)), of(api.Outside, num(0), num(2)),
		of(api.Within, num(1), word("a")), of(api.Within),
		of(api.Without, num(1), word("a")), of(api.Without),
	}
}

// samples: predicates of every kind.
func samples() []api.Pred {
	return append(simple(),
		not(eq(1)), not(gt(1)), not(not(gt(1))),
		and(eq(1), gt(0)), and(gt(0), gt(1), not(eq(1))), and(not(gt(1)), or(eq(1), neq(2))),
		or(eq(1), gt(0)), or(eq(2), neq(1), of(api.Within)), or(and(gt(1), eq(2)), not(or(eq(1), eq(0)))),
		of(api.Eq, list(num(1), list(word("a")))), of(api.Within, dict(list(num(1)), path(num(2))), list(num(1))),
		or(of(api.Between, list(), list(num(2))), of(api.Lt, dict(num(1), list(num(2))))),
	)
}

// wrong: what is no predicate, though not for what is deep in it.
func wrong() []api.Pred {
	return append(wrongThatEnd(),
		inItself(api.Not, 1), inItself(api.And, 2), inItself(api.Or, api.MaxItems), inItself(api.And, api.MaxItems))
}

// wrongThatEnd: those that are not in themselves.
func wrongThatEnd() []api.Pred {
	return []api.Pred{
		{}, {V: vals(num(1))}, {P: preds(eq(1))},
		of(-1, num(1)), of(15, num(1)), of(api.MinInt, num(1)), of(api.MaxInt, num(1)), of(0, num(1), num(2)),
		made(-1, eq(1)), made(15, eq(1), eq(1)), made(api.MaxInt, eq(1)),
		of(api.Eq), of(api.Eq, num(1), num(1)), of(api.Between, num(1)), of(api.Outside, num(1), num(2), num(3)),
		of(api.Within, numbers(api.MaxItems+1)...), of(api.Without, numbers(api.MaxItems+1)...),
		{Kind: api.Eq, V: vals(num(1)), P: preds(eq(1))}, {Kind: api.Within, P: preds(eq(1))},
		{Kind: api.Not, V: vals(num(1))}, {Kind: api.Not, V: vals(num(1)), P: preds(eq(1))}, {Kind: api.And, V: vals(num(1), num(2)), P: preds(eq(1), eq(1))},
		made(api.Not), not(api.Pred{}), made(api.Not, eq(1), eq(1)),
		and(), and(eq(1)), or(), or(eq(1)),
		of(api.Eq, api.Value{}), of(api.Within, num(1), api.Value{Kind: 9}),
	}
}

// alike: are they the same, field by field?
func alike(a, b api.Pred) bool {
	return a.Kind == b.Kind && slices.EqualFunc(a.V, b.V, value.Same) && slices.EqualFunc(a.P, b.P, alike)
}

// deepest: how deep p is; p is not in itself.
func deepest(p api.Pred) int {
	deep := 0
	for _, x := range p.P {
		deep = max(deep, deepest(x))
	}
	return deep + 1
}

// nothing: has p no field?
func nothing(p api.Pred) bool {
	return p.Kind == 0 && len(p.V) == 0 && len(p.P) == 0
}

// show: p as far as a message has room for it; it may have no end.
func show(p api.Pred) string {
	s := showAt(p, 1)
	if len(s) > 400 {
		return s[:200] + " .. " + s[len(s)-200:]
	}
	return s
}

func showAt(p api.Pred, level int) string {
	s := "{" + strconv.Itoa(p.Kind)
	for i, v := range p.V {
		if i == 3 {
			s += " .."
			break
		}
		s += " " + showValue(v)
	}
	for i, x := range p.P {
		if i == 3 || level > 6 {
			s += " .."
			break
		}
		s += " " + showAt(x, level+1)
	}
	return s + "}"
}

func showValue(v api.Value) string {
	return fmt.Sprintf("(%d %d %.10q L %d M %d)", v.Kind, v.N, v.S, len(v.L), len(v.M))
}

func checkCheck(t *testing.T, p api.Pred, want api.Errno) {
	t.Helper()
	if e := pred.Check(p); e != want {
		t.Errorf("Check(%s) = %d; want %d", show(p), e, want)
	}
}

func checkTest(t *testing.T, p api.Pred, v api.Value, want bool) {
	t.Helper()
	if got := pred.Test(p, v); got != want {
		t.Errorf("Test(%s, %s) = %v", show(p), showValue(v), got)
	}
}

// checkNone: p is no predicate, so nothing comes of it.
func checkNone(t *testing.T, p api.Pred) {
	t.Helper()
	checkCheck(t, p, api.ErrArg)
	for _, v := range []api.Value{num(0), num(1), word("a"), list(), {}, {Kind: 9}} {
		checkTest(t, p, v, false)
	}
	if got := pred.Negate(p); !nothing(got) {
		t.Errorf("Negate(%s) = %s; want nothing", show(p), show(got))
	}
	checkJoin(t, api.Pred{}, api.Not, p)
	checkJoin(t, api.Pred{}, api.And, p, eq(1))
	checkJoin(t, api.Pred{}, api.Or, eq(1), eq(2), p)
}

func checkNegate(t *testing.T, p, want api.Pred) {
	t.Helper()
	if got := pred.Negate(p); !alike(got, want) {
		t.Errorf("Negate(%s) = %s; want %s", show(p), show(got), show(want))
	}
}

func checkCopy(t *testing.T, p, want api.Pred) {
	t.Helper()
	if got := pred.Copy(p); !alike(got, want) {
		t.Errorf("Copy(%s) = %s; want %s", show(p), show(got), show(want))
	}
}

func checkJoin(t *testing.T, want api.Pred, kind int, l ...api.Pred) {
	t.Helper()
	if got := pred.Join(kind, l...); !alike(got, want) {
		t.Errorf("Join(%d) of %s = %s; want %s", kind, show(made(0, l...)), show(got), show(want))
	}
}
