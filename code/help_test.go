package code_test

import (
	"fmt"
	"reflect"
	"strings"
	"testing"

	"wayfarer/api"
	"wayfarer/code"
	"wayfarer/value"
)

// Short names for what the tests are made of.
var (
	num  = value.Number
	word = value.Word
	yes  = value.Truth(true)
	no   = value.Truth(false)
)

func vertex(n int) api.Value { return api.Value{Kind: api.Vertex, N: n} }

func edge(n int) api.Value { return api.Value{Kind: api.Edge, N: n} }

func list(l ...api.Value) api.Value { return api.Value{Kind: api.List, L: l} }

func path(l ...api.Value) api.Value { return api.Value{Kind: api.Path, L: l} }

// dict: a map of keys and values, one behind the other, as they stand.
func dict(l ...api.Value) api.Value {
	m := api.Value{Kind: api.Map}
	for i := 0; i < len(l); i += 2 {
		m.L, m.M = append(m.L, l[i]), append(m.M, l[i+1])
	}
	return m
}

func vals(l ...api.Value) []api.Value { return l }

// numbers: n rising ones.
func numbers(n int) []api.Value {
	var l []api.Value
	for i := range n {
		l = append(l, num(i))
	}
	return l
}

// twice: each item, and itself behind.
func twice(l []api.Value) []api.Value {
	var pairs []api.Value
	for _, v := range l {
		pairs = append(pairs, v, v)
	}
	return pairs
}

func letters(n int) string { return strings.Repeat("a", n) }

// within: v in so many rows, one around the other.
func within(v api.Value, rows int, around func(...api.Value) api.Value) api.Value {
	for range rows {
		v = around(v)
	}
	return v
}

// endless: one of that kind that lies within itself.
func endless(kind, wide int) api.Value {
	row := make([]api.Value, wide)
	for i := range row {
		row[i] = api.Value{Kind: kind, L: row}
		if kind == api.Map {
			row[i].M = row
		}
	}
	return row[0]
}

type told struct {
	v api.Value
	s string
}

// all: values of every kind, and their texts.
func all() []told {
	return []told{
		{yes, `true`},
		{no, `false`},
		{num(0), `0`},
		{num(7), `7`},
		{num(-12), `-12`},
		{num(1090), `1090`},
		{num(api.MaxInt), `9223372036854775807`},
		{num(api.MinInt), `-9223372036854775808`},
		{word(""), `''`},
		{word("a"), `'a'`},
		{word(" a  b "), `' a  b '`},
		{word("true"), `'true'`},
		{word("[1, 2]"), `'[1, 2]'`},
		{word("'"), `'\''`},
		{word(`\`), `'\\'`},
		{word(`\'`), `'\\\''`},
		{word(`\x41`), `'\\x41'`},
		{word(`"`), `'"'`},
		{word("\n"), `'\x0a'`},
		{word("\x00\x1f ~\x7f\x80\xff"), `'\x00\x1f ~\x7f\x80\xff'`},
		{word("é"), `'\xc3\xa9'`},
		{vertex(0), `v[0]`},
		{vertex(3), `v[3]`},
		{vertex(api.MaxInt), `v[9223372036854775807]`},
		{edge(0), `e[0]`},
		{edge(12), `e[12]`},
		{edge(api.MaxInt), `e[9223372036854775807]`},
		{list(), `[]`},
		{list(num(1)), `[1]`},
		{list(list()), `[[]]`},
		{list(list(), list(), path(), dict()), `[[], [], path[], {}]`},
		{list(num(2), num(1), num(2)), `[2, 1, 2]`},
		{list(num(1), word("a'b"), vertex(3), dict(word("k"), yes)), `[1, 'a\'b', v[3], {'k': true}]`},
		{path(), `path[]`},
		{path(vertex(0), edge(2)), `path[v[0], e[2]]`},
		{path(path(num(1)), num(-1), no), `path[path[1], -1, false]`},
		{dict(), `{}`},
		{dict(word("k"), num(1)), `{'k': 1}`},
		{dict(num(1), word("a"), word("k"), list(yes)), `{1: 'a', 'k': [true]}`},
		{dict(no, num(5), yes, num(4), num(-3), num(3), vertex(0), num(2), edge(0), num(1)), `{false: 5, true: 4, -3: 3, v[0]: 2, e[0]: 1}`},
		{dict(list(), dict(), list(num(1)), list(), dict(num(1), num(2)), path(), path(edge(1)), dict(word(""), word(""))),
			`{[]: {}, [1]: [], {1: 2}: path[], path[e[1]]: {'': ''}}`},
		{list(list(num(1), list(num(2), path(dict(num(3), list(edge(4)))))), num(5)), `[[1, [2, path[{3: [e[4]]}]]], 5]`},
	}
}

// odd: what is no value.
func odd() []api.Value {
	return []api.Value{
		{},
		{Kind: -1},
		{Kind: 9},
		{Kind: api.MinInt},
		{Kind: api.MaxInt},
		{N: 1},
		{S: "a"},
		{L: vals(num(1))},
		{Kind: api.Bool, N: 2},
		{Kind: api.Bool, N: -1},
		{Kind: api.Bool, S: "true"},
		{Kind: api.Int, S: "1"},
		{Kind: api.Int, L: vals(num(1))},
		{Kind: api.Int, M: vals(num(1))},
		{Kind: api.Text, N: 1},
		{Kind: api.Text, L: vals(num(1))},
		{Kind: api.Text, S: letters(api.MaxText + 1)},
		{Kind: api.Vertex, N: -1},
		{Kind: api.Vertex, N: api.MinInt},
		{Kind: api.Vertex, S: "1"},
		{Kind: api.Edge, N: -1},
		{Kind: api.Edge, L: vals(num(1))},
		{Kind: api.List, N: 1},
		{Kind: api.List, S: "a"},
		{Kind: api.List, M: vals(num(1))},
		{Kind: api.Path, N: 1},
		{Kind: api.Path, L: vals(num(1)), M: vals(num(1))},
		{Kind: api.Map, L: vals(num(1))},
		{Kind: api.Map, M: vals(num(1))},
		{Kind: api.Map, L: vals(num(1), num(2)), M: vals(num(1))},
		{Kind: api.Map, N: 1},
		dict(num(2), num(0), num(1), num(0)),
		dict(num(1), num(0), num(1), num(0)),
		list(numbers(api.MaxItems + 1)...),
		path(numbers(api.MaxItems + 1)...),
		dict(twice(numbers(api.MaxItems + 1))...),
		within(num(1), api.MaxDepth, list),
		within(list(), api.MaxDepth, path),
		within(num(1), 5000, list),
		endless(api.List, 1),
		endless(api.Path, 3),
		endless(api.Map, 2),
		endless(api.List, api.MaxItems),
	}
}

func checkPrint(t *testing.T, v api.Value, want string) {
	t.Helper()
	if s, e := code.Print(v); s != want || e != api.OK {
		t.Errorf("Print tells %.60q, %d; want %.60q", s, e, want)
	}
}

func checkNoPrint(t *testing.T, v api.Value) {
	t.Helper()
	if s, e := code.Print(v); s != "" || e != api.ErrArg {
		t.Errorf("Print of what is no value (kind %d, %d) tells %.60q, %d", v.Kind, v.N, s, e)
	}
}

func checkParse(t *testing.T, s string, want api.Value) {
	t.Helper()
	if v, e := code.Parse(s); e != api.OK || !reflect.DeepEqual(v, want) {
		t.Errorf("Parse(%.60q) = %.60q, %d; want %.60q", s, fmt.Sprint(v), e, fmt.Sprint(want))
	}
}

func checkNoParse(t *testing.T, s string) {
	t.Helper()
	if v, e := code.Parse(s); e != api.ErrText || !reflect.DeepEqual(v, api.Value{}) {
		t.Errorf("Parse(%.60q) = %.60q, %d; want ErrText", s, fmt.Sprint(v), e)
	}
}

// checkAny: a text is that of a value, or none, and nothing between.
func checkAny(t *testing.T, s string) bool {
	t.Helper()
	v, e := code.Parse(s)
	if e == api.OK {
		checkPrint(t, v, s)
		return true
	}
	checkNoParse(t, s)
	return false
}
