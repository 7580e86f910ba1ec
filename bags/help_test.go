package bags_test

import (
	"fmt"
	"slices"
	"strings"
	"testing"

	"wayfarer/api"
	"wayfarer/value"
)

// Short names for what the tests are made of.
var (
	num  = value.Number
	word = value.Word
)

func list(l ...api.Value) api.Value { return api.Value{Kind: api.List, L: l} }

func path(l ...api.Value) api.Value { return api.Value{Kind: api.Path, L: l} }

// dict: a map of keys and values, one behind the other, as they stand.
func dict(l ...api.Value) api.Value {
	m := api.Value{Kind: api.Map}
	for i := 0; i < len(l); i += 2 {
		m.L, m.M = append(m.L, l[i]), append(m.M, l[i+1])
	}
	return m
}

func vals(l ...api.Value) []api.Value { return l }

// of: v, so often.
func of(n int, v api.Value) api.Many { return api.Many{V: v, N: n} }

func bag(l ...api.Many) []api.Many { return l }

func letters(n int) string { return strings.Repeat("a", n) }

// numbers: n rising ones.
func numbers(n int) []api.Value {
	var l []api.Value
	for i := range n {
		l = append(l, num(i))
	}
	return l
}

// within: v in so many lists, one around the other.
func within(v api.Value, lists int) api.Value {
	for range lists {
		v = list(v)
	}
	return v
}

// endless: one of that kind that lies within itself.
func endless(kind int) api.Value {
	row := make([]api.Value, 1)
	row[0] = api.Value{Kind: kind, L: row}
	if kind == api.Map {
		row[0].M = row
	}
	return row[0]
}

// rising: values of every kind, each ahead of the next one.
func rising() []api.Value {
	return []api.Value{
		value.Truth(false), value.Truth(true),
		num(api.MinInt), num(-1), num(0), num(1), num(api.MaxInt),
		word(""), word("\x00"), word("a"), word(letters(api.MaxText)), word("ab"), word("\xff"),
		{Kind: api.Vertex}, {Kind: api.Vertex, N: 1}, {Kind: api.Vertex, N: api.MaxInt},
		{Kind: api.Edge}, {Kind: api.Edge, N: 1}, {Kind: api.Edge, N: api.MaxInt},
		list(), list(num(1)), list(num(1), num(0)), list(num(2)), list(word("a")), list(list()), within(num(1), api.MaxDepth-1),
		dict(), dict(num(1), num(1)), dict(num(1), num(2)), dict(num(1), num(0), num(2), num(0)), dict(word("a"), list(dict())),
		path(), path(num(1)), path(num(1), num(1)), path(api.Value{Kind: api.Vertex, N: 3}, api.Value{Kind: api.Edge, N: 1}),
	}
}

// odd: what is no value.
func odd() []api.Value {
	return []api.Value{
		{},
		{Kind: -1},
		{Kind: 9},
		{Kind: api.MaxInt},
		{N: 1},
		{S: "a"},
		{L: vals(num(1))},
		{Kind: api.Bool, N: 2},
		{Kind: api.Int, N: 7, S: "7"},
		{Kind: api.Int, L: vals(num(1))},
		{Kind: api.Text, N: 1},
		{Kind: api.Text, S: letters(api.MaxText + 1)},
		{Kind: api.Vertex, N: -1},
		{Kind: api.Edge, N: api.MinInt},
		{Kind: api.List, N: 1},
		{Kind: api.List, M: vals(num(1))},
		list(api.Value{}),
		list(numbers(api.MaxItems + 1)...),
		{Kind: api.Map, L: vals(num(1))},
		{Kind: api.Map, M: vals(num(1))},
		dict(num(2), num(0), num(1), num(0)),
		dict(num(1), num(0), num(1), num(0)),
		dict(num(1), api.Value{Kind: api.Bool, N: 7}),
		path(api.Value{Kind: 9}),
		within(num(1), api.MaxDepth),
		within(num(1), 5000),
		endless(api.List),
		endless(api.Map),
		endless(api.Path),
		endless(0),
	}
}

// wrong: bulks that may not be, each for one reason.
func wrong() []api.Many {
	l := bag(of(0, num(1)), of(-1, num(1)), of(api.MinInt, num(1)), of(0, word("")), of(0, api.Value{}), api.Many{})
	for _, v := range odd() {
		l = append(l, of(1, v), of(api.MaxInt, v))
	}
	return l
}

// clone: the same in memory of its own.
func clone(l []api.Many) []api.Many {
	var c []api.Many
	for _, m := range l {
		c = append(c, of(m.N, value.Copy(m.V)))
	}
	return c
}

// turned: the last one first.
func turned[T any](l []T) []T {
	l = slices.Clone(l)
	slices.Reverse(l)
	return l
}

// scribble writes into all rows of v, and into the room behind them.
func scribble(v api.Value, level int) {
	if level > api.MaxDepth+1 {
		return
	}
	for _, row := range [][]api.Value{v.L, v.M} {
		for _, x := range row {
			scribble(x, level+1)
		}
		row = row[:cap(row)]
		for i := range row {
			row[i] = api.Value{Kind: 77, N: level, S: "written over"}
		}
	}
}

// scribbleBag does so with all bulks, and with the room behind them.
func scribbleBag(l []api.Many) {
	for _, m := range l {
		scribble(m.V, 1)
	}
	l = l[:cap(l)]
	for i := range l {
		l[i] = of(-77, api.Value{Kind: 77, S: "written over"})
	}
}

// alike: the same bulks in the same order, in all fields.
func alike(a, b []api.Many) bool {
	return slices.EqualFunc(a, b, func(m, n api.Many) bool { return m.N == n.N && equal(m.V, n.V) })
}

// equal: all fields are the same; a row that is nil and one that is empty are
// the same, too.
func equal(a, b api.Value) bool {
	return a.Kind == b.Kind && a.N == b.N && a.S == b.S && slices.EqualFunc(a.L, b.L, equal) && slices.EqualFunc(a.M, b.M, equal)
}

func checkBag(t *testing.T, what string, got, want []api.Many) {
	t.Helper()
	if !alike(got, want) {
		t.Errorf("%s: %s; want %s", what, show(got), show(want))
	}
}

func checkValues(t *testing.T, what string, got, want []api.Value) {
	t.Helper()
	if !slices.EqualFunc(got, want, equal) {
		t.Errorf("%s: %.200q; want %.200q", what, fmt.Sprint(got), fmt.Sprint(want))
	}
}

// show: as many bulks as a message has room for; what they are made of may
// have no end.
func show(l []api.Many) string {
	s := fmt.Sprint(len(l), " bulks:")
	for _, m := range l[:min(len(l), 8)] {
		s += fmt.Sprintf(" {%d %d %.20q %d %d} x %d", m.V.Kind, m.V.N, m.V.S, len(m.V.L), len(m.V.M), m.N)
	}
	return s
}
