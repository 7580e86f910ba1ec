package value_test

import (
	"fmt"
	"strings"

	"wayfarer/api"
	"wayfarer/value"
)

// Short names for what the tests are made of.
var (
	num  = value.Number
	word = value.Word
)

func list(l ...api.Value) api.Value { return api.Value{Kind: api.List, L: l} }

func path(l ...api.Value) api.Value { return api.Value{Kind: api.Path, L: l} }

func dict(keys, values []api.Value) api.Value {
	return api.Value{Kind: api.Map, L: keys, M: values}
}

func vals(l ...api.Value) []api.Value { return l }

// numbers: n rising ones.
func numbers(n int) []api.Value {
	var l []api.Value
	for i := range n {
		l = append(l, num(i))
	}
	return l
}

func letters(n int) string { return strings.Repeat("a", n) }

// within: v in so many lists, one around the other.
func within(v api.Value, lists int) api.Value {
	for range lists {
		v = list(v)
	}
	return v
}

// endless: one of that kind that lies within itself, so many times side by
// side; a map's keys are its values, too.
func endless(kind, wide int) api.Value {
	row := make([]api.Value, wide)
	for i := range row {
		row[i] = api.Value{Kind: kind, L: row}
		if kind == api.Map {
			row[i].M = row
		}
	}
	return row[0]
}

// rising: values of every kind, each ahead of the next one.
func rising() []api.Value {
	return []api.Value{
		value.Truth(false),
		value.Truth(true),
		num(api.MinInt), num(-5), num(-1), num(0), num(1), num(7), num(api.MaxInt),
		word(""), word("\x00"), word("A"), word("B"), word("a"), word("a\x00"), word("ab"), word("b"),
		word("z"), word("é"), word("\xff"), word("\xff\xff"),
		{Kind: api.Vertex}, {Kind: api.Vertex, N: 1}, {Kind: api.Vertex, N: api.MaxInt},
		{Kind: api.Edge}, {Kind: api.Edge, N: 1}, {Kind: api.Edge, N: api.MaxInt},
		list(),
		list(value.Truth(true)),
		list(num(1)),
		list(num(1), num(0)),
		list(num(1), num(2)),
		list(num(1), num(2), num(0)),
		list(num(2)),
		list(word("a")),
		list(list()),
		list(list(), list()),
		list(list(num(0))),
		list(path()),
		dict(nil, nil),
		dict(vals(num(1)), vals(num(1))),
		dict(vals(num(1)), vals(num(2))),
		dict(vals(num(1)), vals(word("a"))),
		dict(vals(num(1), num(2)), vals(num(0), num(0))),
		dict(vals(num(1), num(2)), vals(num(0), num(3))),
		dict(vals(num(1), num(2)), vals(num(1), num(0))),
		dict(vals(num(1), num(3)), vals(num(0), num(0))),
		dict(vals(num(2)), vals(num(0))),
		dict(vals(word("a")), vals(num(0))),
		dict(vals(list(num(1))), vals(dict(nil, nil))),
		path(),
		path(num(1)),
		path(num(1), num(1)),
		path(api.Value{Kind: api.Vertex, N: 3}, api.Value{Kind: api.Edge, N: 1}),
	}
}

// odd: what is no value, each ahead of the next one.
func odd() []api.Value {
	return []api.Value{
		{Kind: api.MinInt},
		{Kind: -1, N: 1},
		{},
		{L: vals(num(1))},
		{S: "a"},
		{N: 1},
		{Kind: api.Bool, N: -1},
		{Kind: api.Bool, N: 0, M: vals(num(0))},
		{Kind: api.Bool, N: 0, L: vals(num(0))},
		{Kind: api.Bool, N: 2},
		{Kind: api.Int, N: 1, M: vals(num(5))},
		{Kind: api.Int, N: 1, M: vals(num(5), num(0))},
		{Kind: api.Int, N: 1, M: vals(num(6))},
		{Kind: api.Int, N: 1, L: vals(num(0))},
		{Kind: api.Int, N: 1, L: vals(num(0)), M: vals(num(5))},
		{Kind: api.Int, N: 1, S: "a"},
		{Kind: api.Int, N: 2, L: vals(num(9)), M: vals(num(9))},
		{Kind: api.Text, N: -1, S: "b"},
		{Kind: api.Text, N: 1, S: "a"},
		{Kind: api.Vertex, N: -1},
		{Kind: api.Edge, N: -1},
		{Kind: api.List, M: vals(num(1))},
		{Kind: api.List, L: vals(api.Value{})},
		{Kind: api.List, L: vals(num(0)), M: vals(num(0))},
		{Kind: api.List, S: "a"},
		{Kind: api.List, N: 1},
		{Kind: api.Map, M: vals(num(1))},
		{Kind: api.Map, L: vals(num(1))},
		{Kind: api.Map, L: vals(num(1), num(1)), M: vals(num(1), num(1))},
		{Kind: api.Map, L: vals(num(2), num(1)), M: vals(num(1), num(1))},
		{Kind: api.Path, N: 3},
		{Kind: 9},
		{Kind: 9, N: 1},
		{Kind: api.MaxInt},
	}
}

// far: what is too deep, or has no end.
func far() []api.Value {
	return []api.Value{
		within(num(1), api.MaxDepth-1),
		within(num(1), api.MaxDepth),
		within(num(1), api.MaxDepth+1),
		within(num(2), 5000),
		endless(api.List, 1),
		endless(api.List, 2),
		endless(api.Map, 1),
		endless(api.Path, 2),
		endless(api.Int, 1),
		endless(0, 1),
	}
}

// scribble writes into all rows of v, and into the room behind them.
func scribble(v api.Value, level int) {
	if level > api.MaxDepth+1 {
		return
	}
	for _, row := range [][]api.Value{v.L, v.M} {
		for _, x := range row {
			scribble(x, level+1)
		}
		row = row[:cap(row)]
		for i := range row {
			row[i] = api.Value{Kind: 77, N: level, S: "written over"}
		}
	}
}

// show: v as far as a message has room for it; it may have no end.
func show(v api.Value) string {
	s := fmt.Sprintf("{%d %d %.20q", v.Kind, v.N, v.S)
	if len(v.L) > 0 {
		s += fmt.Sprintf(" L %d: %.20q ..", len(v.L), fmt.Sprint(v.L[0].Kind, v.L[0].N, v.L[0].S))
	}
	if len(v.M) > 0 {
		s += fmt.Sprintf(" M %d: %.20q ..", len(v.M), fmt.Sprint(v.M[0].Kind, v.M[0].N, v.M[0].S))
	}
	return s + "}"
}
