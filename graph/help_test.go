package graph_test

import (
	"fmt"
	"slices"
	"strings"
	"testing"

	"wayfarer/api"
	"wayfarer/value"
)

// Short names for what the tests are made of.
var (
	num  = value.Number
	word = value.Word
)

func list(l ...api.Value) api.Value { return api.Value{Kind: api.List, L: l} }

func path(l ...api.Value) api.Value { return api.Value{Kind: api.Path, L: l} }

// dict: a map of keys and values, one behind the other, as they stand.
func dict(l ...api.Value) api.Value {
	m := api.Value{Kind: api.Map}
	for i := 0; i < len(l); i += 2 {
		m.L, m.M = append(m.L, l[i]), append(m.M, l[i+1])
	}
	return m
}

func vals(l ...api.Value) []api.Value { return l }

func prop(key string, v api.Value) api.Prop { return api.Prop{Key: key, V: v} }

func props(l ...api.Prop) []api.Prop { return l }

func vertex(id int, label string, l ...api.Prop) api.Thing {
	return api.Thing{ID: id, Label: label, Props: l}
}

func edge(id int, label string, out, in int, l ...api.Prop) api.Thing {
	return api.Thing{ID: id, Label: label, Out: out, In: in, Props: l}
}

func things(l ...api.Thing) []api.Thing { return l }

func letters(n int) string { return strings.Repeat("a", n) }

// numbers: n rising ones.
func numbers(n int) []api.Value {
	var l []api.Value
	for i := range n {
		l = append(l, num(i))
	}
	return l
}

// keyed: n properties by rising keys, each with its place as its value.
func keyed(n int) []api.Prop {
	var l []api.Prop
	for i := range n {
		l = append(l, prop(fmt.Sprintf("k%02d", i), num(i)))
	}
	return l
}

// vertices: n by rising IDs, from 0 on.
func vertices(n int) []api.Thing {
	var l []api.Thing
	for i := range n {
		l = append(l, vertex(i, "v"))
	}
	return l
}

// loops: n edges by rising IDs, from 0 on, all from that vertex to itself.
func loops(n, at int) []api.Thing {
	var l []api.Thing
	for i := range n {
		l = append(l, edge(i, "e", at, at))
	}
	return l
}

// within: v in so many lists, one around the other.
func within(v api.Value, lists int) api.Value {
	for range lists {
		v = list(v)
	}
	return v
}

// endless: one of that kind that lies within itself, so many times side by
// side.
func endless(kind, wide int) api.Value {
	row := make([]api.Value, wide)
	for i := range row {
		row[i] = api.Value{Kind: kind, L: row}
		if kind == api.Map {
			row[i].M = row
		}
	}
	return row[0]
}

// plain: values that may be a property's.
func plain() []api.Value {
	return []api.Value{
		value.Truth(false), value.Truth(true),
		num(api.MinInt), num(-1), num(0), num(1), num(api.MaxInt),
		word(""), word("a"), word("it's\n"), word("\x00\xff"), word("é"), word(letters(api.MaxText)),
		list(), list(num(1)), list(word("x")), list(value.Truth(true)),
		list(num(2), num(1), num(1)), list(num(1), word("x"), value.Truth(false)),
		list(word(letters(api.MaxText))), list(numbers(api.MaxItems)...),
		{Kind: api.List, L: []api.Value{}, M: []api.Value{}},
	}
}

// other: values that may not be a property's.
func other() []api.Value {
	return []api.Value{
		{Kind: api.Vertex}, {Kind: api.Vertex, N: 3}, {Kind: api.Edge}, {Kind: api.Edge, N: api.MaxInt},
		dict(), dict(word("k"), num(1)), path(), path(num(1)),
		list(list()), list(list(num(1))), list(num(1), list()), list(list(), num(1)), list(num(1), list(num(2)), num(3)),
		list(api.Value{Kind: api.Vertex}), list(api.Value{Kind: api.Edge}), list(dict()), list(path()),
		list(num(1), api.Value{Kind: api.Edge, N: 1}), list(path(), num(1)),
		within(num(1), 2), within(num(1), api.MaxDepth-1),
	}
}

// odd: what is no value.
func odd() []api.Value {
	return []api.Value{
		{}, {Kind: -1}, {Kind: 9}, {Kind: api.MaxInt}, {Kind: api.MinInt},
		{N: 1}, {S: "a"}, {L: vals(num(1))},
		{Kind: api.Bool, N: 2}, {Kind: api.Bool, N: -1}, {Kind: api.Bool, S: "a"}, {Kind: api.Bool, L: vals(num(1))},
		{Kind: api.Int, N: 7, S: "7"}, {Kind: api.Int, L: vals(num(1))}, {Kind: api.Int, M: vals(num(1))},
		{Kind: api.Text, N: 1}, {Kind: api.Text, S: "a", L: vals(num(1))}, word(letters(api.MaxText + 1)),
		{Kind: api.Vertex, N: -1}, {Kind: api.Edge, N: -1},
		{Kind: api.List, N: 1}, {Kind: api.List, S: "a"}, {Kind: api.List, M: vals(num(1))}, {Kind: api.List, L: vals(num(1)), M: vals(num(1))},
		list(api.Value{}), list(num(1), api.Value{Kind: 9}), list(api.Value{Kind: api.Bool, N: 2}),
		list(api.Value{Kind: api.Int, L: vals(num(1))}), list(word(letters(api.MaxText + 1))),
		list(numbers(api.MaxItems + 1)...),
		dict(num(2), num(0), num(1), num(0)), path(api.Value{}),
		within(num(1), api.MaxDepth), within(num(1), 5000),
		endless(api.List, 1), endless(api.List, 2), endless(api.Map, 1), endless(api.Path, 2), endless(api.Int, 2), endless(0, 1),
	}
}

// unplain: all that may not be a property's value.
func unplain() []api.Value { return slices.Concat(other(), odd()) }

// names: what may be a label or a key.
func names() []string {
	return []string{
		"a", "z", "A", "Z", "_", "__", "a0", "a9", "_0", "Z9_", "age", "first_name", "g", "true",
		letters(api.MaxName), "_" + strings.Repeat("9", api.MaxName-1),
	}
}

// unnamed: what may be none.
func unnamed() []string {
	return []string{
		"", "0", "9a", "2x", "42", "-a", "a-b", "a b", " a", "a ", "a.b", "a'b", "a\n", "\x00", "a\x00", "a\xff",
		"é", "aé", "@", "[", "`", "{", "/", ":", "a@", "a[", "a`", "a{", "a/", "a:",
		letters(api.MaxName + 1), letters(5000), strings.Repeat("9", api.MaxName),
	}
}

// fresh: a graph of vertices and edges, with and without properties.
func fresh() api.Graph {
	return api.Graph{
		V: things(
			vertex(0, "person", prop("age", num(3)), prop("name", word("ann")), prop("tags", list(num(1), word("x"), value.Truth(true)))),
			vertex(1, "person"),
			vertex(7, "place", prop("open", value.Truth(false)), prop("rooms", list())),
		),
		E: things(
			edge(0, "knows", 0, 1, prop("since", list(num(9), num(8)))),
			edge(1, "knows", 0, 1),
			edge(2, "likes", 1, 1),
			edge(api.MaxInt, "in", 7, 0, prop("a", num(1)), prop("b", list(num(2)))),
		),
	}
}

// cloneThings: the same, in memory of their own.
func cloneThings(l []api.Thing) []api.Thing {
	l = slices.Clone(l)
	for i := range l {
		l[i].Props = slices.Clone(l[i].Props)
		for j := range l[i].Props {
			l[i].Props[j].V = value.Copy(l[i].Props[j].V)
		}
	}
	return l
}

func cloneThing(t api.Thing) api.Thing { return cloneThings(things(t))[0] }

func clone(g api.Graph) api.Graph {
	return api.Graph{V: cloneThings(g.V), E: cloneThings(g.E)}
}

// scribble writes into all rows of v, and into the room behind them.
func scribble(v api.Value, level int) {
	if level > api.MaxDepth+1 {
		return
	}
	for _, row := range [][]api.Value{v.L, v.M} {
		for _, x := range row {
			scribble(x, level+1)
		}
		row = row[:cap(row)]
		for i := range row {
			row[i] = api.Value{Kind: 77, N: level, S: "written over"}
		}
	}
}

// scribbleThing does so with all properties.
func scribbleThing(t api.Thing) {
	for _, p := range t.Props {
		scribble(p.V, 1)
	}
	l := t.Props[:cap(t.Props)]
	for i := range l {
		l[i] = prop("written over", api.Value{Kind: 77})
	}
}

// scribbleThings does so with all things.
func scribbleThings(l []api.Thing) {
	for _, t := range l {
		scribbleThing(t)
	}
	l = l[:cap(l)]
	for i := range l {
		l[i] = edge(-77, "written over", -77, -77, prop("written over", num(77)))
	}
}

// equal: all fields are the same; a row that is nil and one that is empty are
// the same, too.
func equal(a, b api.Value) bool {
	return a.Kind == b.Kind && a.N == b.N && a.S == b.S && slices.EqualFunc(a.L, b.L, equal) && slices.EqualFunc(a.M, b.M, equal)
}

func alikeProps(a, b []api.Prop) bool {
	return slices.EqualFunc(a, b, func(p, q api.Prop) bool { return p.Key == q.Key && equal(p.V, q.V) })
}

func alike(a, b api.Thing) bool {
	return a.ID == b.ID && a.Label == b.Label && a.Out == b.Out && a.In == b.In && alikeProps(a.Props, b.Props)
}

func checkThing(t *testing.T, what string, got, want api.Thing) {
	t.Helper()
	if !alike(got, want) {
		t.Errorf("%s: %s; want %s", what, show(got), show(want))
	}
}

func checkThings(t *testing.T, what string, got, want []api.Thing) {
	t.Helper()
	if !slices.EqualFunc(got, want, alike) {
		t.Errorf("%s: %s; want %s", what, showAll(got), showAll(want))
	}
}

func checkGraph(t *testing.T, what string, got, want api.Graph) {
	t.Helper()
	checkThings(t, what+": vertices", got.V, want.V)
	checkThings(t, what+": edges", got.E, want.E)
}

// showValue: v as far as a message has room for it; it may have no end.
func showValue(v api.Value) string {
	return fmt.Sprintf("{%d %d %.20q %d %d}", v.Kind, v.N, v.S, len(v.L), len(v.M))
}

func show(t api.Thing) string {
	s := fmt.Sprintf("%d %.20q %d %d, %d properties:", t.ID, t.Label, t.Out, t.In, len(t.Props))
	for _, p := range t.Props[:min(len(t.Props), 8)] {
		s += fmt.Sprintf(" %.20q %s", p.Key, showValue(p.V))
	}
	return s
}

func showAll(l []api.Thing) string {
	s := fmt.Sprint(len(l), " things:")
	for _, t := range l[:min(len(l), 8)] {
		s += " (" + show(t) + ")"
	}
	return s
}
