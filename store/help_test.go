package store_test

import (
	"fmt"
	"slices"
	"strings"
	"testing"

	"wayfarer/api"
	"wayfarer/store"
)

func num(n int) api.Value { return api.Value{Kind: api.Int, N: n} }

func word(s string) api.Value { return api.Value{Kind: api.Text, S: s} }

func yes() api.Value { return api.Value{Kind: api.Bool, N: 1} }

func list(l ...api.Value) api.Value { return api.Value{Kind: api.List, L: l} }

func prop(key string, v api.Value) api.Prop { return api.Prop{Key: key, V: v} }

func vertex(id int, label string, l ...api.Prop) api.Thing {
	return api.Thing{ID: id, Label: label, Props: l}
}

func edge(id int, label string, out, in int, l ...api.Prop) api.Thing {
	return api.Thing{ID: id, Label: label, Out: out, In: in, Props: l}
}

func things(l ...api.Thing) []api.Thing { return l }

func ids(l ...int) []int { return l }

func names(l ...string) []string { return l }

func letters(n int) string { return strings.Repeat("a", n) }

// keyed: n properties by rising keys.
func keyed(n int) []api.Prop {
	var l []api.Prop
	for i := range n {
		l = append(l, prop(fmt.Sprintf("k%02d", i), num(i)))
	}
	return l
}

// numbered: n vertices by rising IDs, from 0 on.
func numbered(n int) []api.Thing {
	var l []api.Thing
	for i := range n {
		l = append(l, vertex(i, "v"))
	}
	return l
}

// loops: n edges by rising IDs, from 0 on, all from that vertex to itself.
func loops(n, at int) []api.Thing {
	var l []api.Thing
	for i := range n {
		l = append(l, edge(i, "e", at, at))
	}
	return l
}

// fresh: a graph in which there is one of everything: vertices with edges that
// go out, that go in, both, and none; loops; several edges between the same two
// vertices; a vertex and an edge of the same ID; the least and the greatest ID.
func fresh() api.Graph {
	return api.Graph{
		V: things(
			vertex(0, "person", prop("age", num(3)), prop("name", word("ann")), prop("tags", list(num(1), word("x"), yes()))),
			vertex(1, "person"),
			vertex(5, "place", prop("rooms", list(num(4), num(2)))),
			vertex(6, "place", prop("open", yes())),
			vertex(api.MaxInt, "end"),
		),
		E: things(
			edge(0, "knows", 1, 0, prop("since", list(num(9), num(8)))),
			edge(1, "knows", 0, 1, prop("a", num(1)), prop("b", list(num(2)))),
			edge(2, "likes", 1, 1, prop("how", word("much"))),
			edge(3, "likes", 0, 1),
			edge(5, "knows", 0, 1),
			edge(7, "in", 0, 5),
			edge(8, "in", 1, 5),
			edge(40, "likes", 1, 1),
			edge(api.MaxInt-1, "knows", 1, 0),
			edge(api.MaxInt, "ends", api.MaxInt, 0),
		),
	}
}

// spread: a graph as great as may be, with edges that go from vertex to vertex,
// round and round, some of them back.
func spread() api.Graph {
	g := api.Graph{V: numbered(api.MaxVertices)}
	for i := range api.MaxEdges {
		g.E = append(g.E, edge(i, []string{"a", "b", "c"}[i%3], i*7%api.MaxVertices, i*i%api.MaxVertices))
	}
	return g
}

func storeOf(t *testing.T, g api.Graph) *store.Store {
	t.Helper()
	s, e := store.New(g)
	if e != api.OK || s == nil {
		t.Fatalf("New tells %d; %d vertices, %d edges", e, len(g.V), len(g.E))
	}
	return s
}

// plainAround: what the document asks of Around, and of Next, told by going
// through all edges.
func plainAround(g api.Graph, id, way int, labels ...string) (around, next []int) {
	asked := func(x api.Thing) bool { return len(labels) == 0 || slices.Contains(labels, x.Label) }
	for _, x := range g.E {
		if x.Out == id && asked(x) && (way == 1 || way == 3) {
			around, next = append(around, x.ID), append(next, x.In)
		}
	}
	for _, x := range g.E {
		if x.In == id && asked(x) && (way == 2 || way == 3) {
			around, next = append(around, x.ID), append(next, x.Out)
		}
	}
	return around, next
}

// plainIDs: what the document asks of Vertices, and of Edges, told by going
// through all things.
func plainIDs(l []api.Thing, some ...int) []int {
	var all, found []int
	for _, x := range l {
		all = append(all, x.ID)
	}
	for _, id := range some {
		if slices.Contains(all, id) {
			found = append(found, id)
		}
	}
	if len(some) == 0 {
		return all
	}
	return found
}

func plainThing(l []api.Thing, id int) (api.Thing, bool) {
	for _, x := range l {
		if x.ID == id {
			return x, true
		}
	}
	return api.Thing{}, false
}

func equal(a, b api.Value) bool {
	return a.Kind == b.Kind && a.N == b.N && a.S == b.S && slices.EqualFunc(a.L, b.L, equal) && slices.EqualFunc(a.M, b.M, equal)
}

func alike(a, b api.Thing) bool {
	sameProp := func(p, q api.Prop) bool { return p.Key == q.Key && equal(p.V, q.V) }
	return a.ID == b.ID && a.Label == b.Label && a.Out == b.Out && a.In == b.In && slices.EqualFunc(a.Props, b.Props, sameProp)
}

func alikeGraph(a, b api.Graph) bool {
	return slices.EqualFunc(a.V, b.V, alike) && slices.EqualFunc(a.E, b.E, alike)
}

func checkIDs(t *testing.T, what string, got, want []int) {
	t.Helper()
	if !slices.Equal(got, want) {
		t.Errorf("%s: %s; want %s", what, show(got), show(want))
	}
}

// show: a list as far as a message has room for it.
func show(l []int) string {
	return fmt.Sprintf("%d %v", len(l), l[:min(len(l), 20)])
}

func checkThing(t *testing.T, what string, got api.Thing, ok bool, want api.Thing, wantOK bool) {
	t.Helper()
	if ok != wantOK || !alike(got, want) {
		t.Errorf("%s: %.300v, %v; want %.300v, %v", what, got, ok, want, wantOK)
	}
}

// checkAround: Around and Next tell these.
func checkAround(t *testing.T, s *store.Store, id, way int, labels []string, around, next []int) {
	t.Helper()
	what := fmt.Sprintf("%d, way %d, %.60q", id, way, labels)
	checkIDs(t, "Around "+what, s.Around(id, way, labels...), around)
	checkIDs(t, "Next "+what, s.Next(id, way, labels...), next)
}

// someIDs: those of all things of g, and some beside them.
func someIDs(g api.Graph) []int {
	l := ids(api.MinInt, -7, -1, 0, 1, 2, 3, 4, 1<<40, api.MaxInt-1, api.MaxInt)
	return append(append(l, plainIDs(g.V)...), plainIDs(g.E)...)
}

func someWays() []int {
	return ids(api.MinInt, -1, 0, api.Outward, api.Inward, api.Either, 4, 5, 7, api.MaxInt)
}

// checkPlainly: each call tells of g what the plainest way does.
func checkPlainly(t *testing.T, s *store.Store, g api.Graph, labels ...[]string) {
	t.Helper()
	checkTables(t, s, g)
	for _, id := range someIDs(g) {
		for _, way := range someWays() {
			for _, l := range labels {
				around, next := plainAround(g, id, way, l...)
				checkAround(t, s, id, way, l, around, next)
			}
		}
	}
}

// checkTables: the calls that tell of things tell what the plainest way does.
func checkTables(t *testing.T, s *store.Store, g api.Graph) {
	t.Helper()
	if v, e := s.Len(); v != len(g.V) || e != len(g.E) {
		t.Errorf("Len: %d, %d; want %d, %d", v, e, len(g.V), len(g.E))
	}
	checkIDs(t, "Vertices", s.Vertices(), plainIDs(g.V))
	checkIDs(t, "Edges", s.Edges(), plainIDs(g.E))
	some := someIDs(g)
	for _, l := range [][]int{{}, some, slices.Concat(some, some), some[:1], some[len(some)/2:]} {
		checkIDs(t, "Vertices of some", s.Vertices(l...), plainIDs(g.V, l...))
		checkIDs(t, "Edges of some", s.Edges(l...), plainIDs(g.E, l...))
	}
	for _, id := range some {
		checkIDs(t, "Vertices of one", s.Vertices(id), plainIDs(g.V, id))
		checkIDs(t, "Edges of one", s.Edges(id), plainIDs(g.E, id))
		want, wantOK := plainThing(g.V, id)
		got, ok := s.Vertex(id)
		checkThing(t, fmt.Sprint("Vertex ", id), got, ok, want, wantOK)
		want, wantOK = plainThing(g.E, id)
		got, ok = s.Edge(id)
		checkThing(t, fmt.Sprint("Edge ", id), got, ok, want, wantOK)
	}
}
