package store_test

import (
	"slices"
	"testing"

	"wayfarer/api"
	"wayfarer/store"
)

func TestVertices(t *testing.T) {
	s := storeOf(t, fresh())
	checkIDs(t, "all", s.Vertices(), ids(0, 1, 5, 6, api.MaxInt))
	checkIDs(t, "all, of an empty list of IDs", s.Vertices([]int{}...), ids(0, 1, 5, 6, api.MaxInt))
	for _, x := range []struct{ asked, want []int }{
		{ids(0), ids(0)},
		{ids(5, 1), ids(5, 1)},
		{ids(1, 5), ids(1, 5)},
		{ids(6, 0, 6), ids(6, 0, 6)},
		{ids(6, 6), ids(6, 6)},
		{ids(5, 9, 0, 5), ids(5, 0, 5)},
		{ids(9), nil},
		{ids(2, 3, 7), nil}, // some of these are edges
		{ids(-1, 1, api.MinInt), ids(1)},
		{ids(api.MaxInt, 0, api.MaxInt-1), ids(api.MaxInt, 0)},
		{ids(api.MaxInt, 6, 5, 1, 0), ids(api.MaxInt, 6, 5, 1, 0)},
	} {
		checkIDs(t, "some", s.Vertices(x.asked...), x.want)
	}
}

func TestEdges(t *testing.T) {
	s := storeOf(t, fresh())
	all := ids(0, 1, 2, 3, 5, 7, 8, 40, api.MaxInt-1, api.MaxInt)
	checkIDs(t, "all", s.Edges(), all)
	checkIDs(t, "all, of an empty list of IDs", s.Edges([]int{}...), all)
	for _, x := range []struct{ asked, want []int }{
		{ids(0), ids(0)},
		{ids(40, 2), ids(40, 2)},
		{ids(2, 40), ids(2, 40)},
		{ids(7, 0, 7), ids(7, 0, 7)},
		{ids(7, 7), ids(7, 7)},
		{ids(8, 9, 1, 8), ids(8, 1, 8)},
		{ids(9), nil},
		{ids(6, 4, 41), nil}, // one of these is a vertex
		{ids(-1, 1, api.MinInt), ids(1)},
		{ids(api.MaxInt, 0, api.MaxInt-1, api.MaxInt-2), ids(api.MaxInt, 0, api.MaxInt-1)},
	} {
		checkIDs(t, "some", s.Edges(x.asked...), x.want)
	}
}

func TestVertexAndEdge(t *testing.T) {
	g := fresh()
	s := storeOf(t, g)
	for _, want := range g.V {
		got, ok := s.Vertex(want.ID)
		checkThing(t, "Vertex", got, ok, want, true)
	}
	for _, want := range g.E {
		got, ok := s.Edge(want.ID)
		checkThing(t, "Edge", got, ok, want, true)
	}
	for _, id := range ids(api.MinInt, -1, 2, 3, 7, 40, 1<<40, api.MaxInt-1) {
		got, ok := s.Vertex(id)
		checkThing(t, "no Vertex", got, ok, api.Thing{}, false)
	}
	for _, id := range ids(api.MinInt, -1, 4, 6, 9, 41, 1<<40, api.MaxInt-2) {
		got, ok := s.Edge(id)
		checkThing(t, "no Edge", got, ok, api.Thing{}, false)
	}
}

// Each kind has IDs of its own.
func TestVertexAndEdgeOfTheSameID(t *testing.T) {
	v, e := vertex(3, "a", prop("k", num(1))), edge(3, "b", 3, 3, prop("j", num(2)))
	s := storeOf(t, api.Graph{V: things(v), E: things(e)})
	got, ok := s.Vertex(3)
	checkThing(t, "Vertex", got, ok, v, true)
	got, ok = s.Edge(3)
	checkThing(t, "Edge", got, ok, e, true)
	checkIDs(t, "Vertices", s.Vertices(3, 3), ids(3, 3))
	checkIDs(t, "Edges", s.Edges(3, 3), ids(3, 3))
	checkAround(t, s, 3, api.Either, nil, ids(3, 3), ids(3, 3))
}

func checkLen(t *testing.T, what string, s *store.Store, vertices, edges int) {
	t.Helper()
	if v, e := s.Len(); v != vertices || e != edges {
		t.Errorf("Len of %s: %d, %d; want %d, %d", what, v, e, vertices, edges)
	}
}

func TestLen(t *testing.T) {
	checkLen(t, "nothing", storeOf(t, api.Graph{}), 0, 0)
	checkLen(t, "vertices", storeOf(t, api.Graph{V: fresh().V}), 5, 0)
	checkLen(t, "all", storeOf(t, fresh()), 5, 10)
	checkLen(t, "as many as may be", storeOf(t, spread()), api.MaxVertices, api.MaxEdges)
}

// A thing's properties come whole, as they were.
func TestPropertiesOfThings(t *testing.T) {
	wide := list(slices.Repeat([]api.Value{word(letters(api.MaxText))}, api.MaxItems)...)
	full := append(keyed(api.MaxProps-1), prop("wide", wide))
	v, e := vertex(0, "v", full...), edge(9, letters(api.MaxName), 0, 0, full...)
	s := storeOf(t, api.Graph{V: things(v), E: things(e)})
	got, ok := s.Vertex(0)
	checkThing(t, "a full vertex", got, ok, v, true)
	got, ok = s.Edge(9)
	checkThing(t, "a full edge", got, ok, e, true)
}
