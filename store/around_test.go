package store_test

import (
	"fmt"
	"slices"
	"testing"

	"wayfarer/api"
)

// The chapter's example.
func TestExample(t *testing.T) {
	s := storeOf(t, api.Graph{V: things(vertex(0, "v"), vertex(1, "v")), E: things(edge(1, "e", 0, 1), edge(2, "e", 1, 1))})
	checkAround(t, s, 1, api.Either, nil, ids(2, 1, 2), ids(1, 0, 1))
}

func TestEachWay(t *testing.T) {
	const last = api.MaxInt
	s := storeOf(t, fresh())
	for _, x := range []struct {
		id, way      int
		around, next []int
	}{
		// Edges that go out, and that go in, several of them between the same two.
		{0, api.Outward, ids(1, 3, 5, 7), ids(1, 1, 1, 5)},
		{0, api.Inward, ids(0, last-1, last), ids(1, 1, last)},
		{0, api.Either, ids(1, 3, 5, 7, 0, last-1, last), ids(1, 1, 1, 5, 1, 1, last)},
		// Loops are there once each way, and twice with Either.
		{1, api.Outward, ids(0, 2, 8, 40, last-1), ids(0, 1, 5, 1, 0)},
		{1, api.Inward, ids(1, 2, 3, 5, 40), ids(0, 1, 0, 0, 1)},
		{1, api.Either, ids(0, 2, 8, 40, last-1, 1, 2, 3, 5, 40), ids(0, 1, 5, 1, 0, 0, 1, 0, 0, 1)},
		// Some go in alone, some out alone.
		{5, api.Outward, nil, nil},
		{5, api.Inward, ids(7, 8), ids(0, 1)},
		{5, api.Either, ids(7, 8), ids(0, 1)},
		{last, api.Outward, ids(last), ids(0)},
		{last, api.Inward, nil, nil},
		{last, api.Either, ids(last), ids(0)},
		// A vertex without edges.
		{6, api.Outward, nil, nil},
		{6, api.Inward, nil, nil},
		{6, api.Either, nil, nil},
		// The vertices that there are not; of some there are edges with that ID.
		{-1, api.Either, nil, nil},
		{2, api.Either, nil, nil},
		{7, api.Outward, nil, nil},
		{40, api.Inward, nil, nil},
		{last - 1, api.Either, nil, nil},
		{api.MinInt, api.Either, nil, nil},
	} {
		checkAround(t, s, x.id, x.way, nil, x.around, x.next)
		checkAround(t, s, x.id, x.way, []string{}, x.around, x.next)
	}
}

func TestOtherWays(t *testing.T) {
	s := storeOf(t, fresh())
	for _, way := range ids(api.MinInt, -3, -2, -1, 0, 4, 5, 6, 7, 257, 1<<32|1, api.MaxInt) {
		for _, id := range someIDs(fresh()) {
			checkAround(t, s, id, way, nil, nil, nil)
			checkAround(t, s, id, way, names("knows", "likes"), nil, nil)
		}
	}
}

func TestLabels(t *testing.T) {
	const last = api.MaxInt
	s := storeOf(t, fresh())
	for _, x := range []struct {
		id, way      int
		labels       []string
		around, next []int
	}{
		{0, api.Outward, names("knows"), ids(1, 5), ids(1, 1)},
		{0, api.Outward, names("in"), ids(7), ids(5)},
		{0, api.Inward, names("knows"), ids(0, last-1), ids(1, 1)},
		{0, api.Either, names("knows"), ids(1, 5, 0, last-1), ids(1, 1, 1, 1)},
		{1, api.Either, names("likes"), ids(2, 40, 2, 3, 40), ids(1, 1, 1, 0, 1)},
		// Several: the order is that of the edges, whatever that of the labels is.
		{0, api.Outward, names("knows", "likes"), ids(1, 3, 5), ids(1, 1, 1)},
		{0, api.Outward, names("likes", "knows"), ids(1, 3, 5), ids(1, 1, 1)},
		{0, api.Either, names("ends", "in", "likes"), ids(3, 7, last), ids(1, 5, last)},
		{0, api.Either, names("likes", "in", "knows", "ends"), ids(1, 3, 5, 7, 0, last-1, last), ids(1, 1, 1, 5, 1, 1, last)},
		// One twice.
		{0, api.Outward, names("knows", "knows"), ids(1, 5), ids(1, 1)},
		{1, api.Either, names("likes", "in", "likes"), ids(2, 8, 40, 2, 3, 40), ids(1, 5, 1, 1, 0, 1)},
		// One that no edge has, or none of these.
		{0, api.Outward, names("q"), nil, nil},
		{0, api.Outward, names("ends"), nil, nil},
		{0, api.Outward, names("q", "in"), ids(7), ids(5)},
		{0, api.Either, names(""), nil, nil},
		{0, api.Either, names("", "know", "knowss", "Knows", " knows", "knows\x00"), nil, nil},
		{0, api.Either, names("person", "place"), nil, nil},
		{0, api.Either, names("", "in"), ids(7), ids(5)},
		{6, api.Either, names("knows"), nil, nil},
		{9, api.Either, names("knows"), nil, nil},
	} {
		checkAround(t, s, x.id, x.way, x.labels, x.around, x.next)
	}
}

func someLabels() [][]string {
	return [][]string{
		nil, names("knows"), names("likes", "knows"), names("likes", "likes"), names("q"), names("q", "in", "ends"), names(""),
	}
}

func TestAllOfOneGraph(t *testing.T) {
	checkPlainly(t, storeOf(t, fresh()), fresh(), someLabels()...)
}

// smallEdges: all rows of so many edges between these vertices, with two
// labels, whose IDs rise from that one on.
func smallEdges(count, first int, ends []int) [][]api.Thing {
	all := [][]api.Thing{nil}
	for n := range count {
		var longer [][]api.Thing
		for _, l := range all {
			for _, out := range ends {
				for _, in := range ends {
					for _, label := range names("a", "b") {
						longer = append(longer, append(slices.Clone(l), edge(first+2*n, label, out, in)))
					}
				}
			}
		}
		all = longer
	}
	return all
}

// Each graph of a few edges between a few vertices is told as in the plainest
// way.
func TestAllSmallGraphs(t *testing.T) {
	labels := [][]string{nil, names("a"), names("b", "a"), names("b", "c", "b")}
	for _, x := range []struct {
		edges    int
		vertices []int
	}{
		{0, nil}, {0, ids(0)}, {0, ids(3, api.MaxInt)}, {1, ids(0)}, {2, ids(1)}, {3, ids(7)},
		{1, ids(0, 2, api.MaxInt)}, {2, ids(0, 2, api.MaxInt)}, {3, ids(1, 4)},
	} {
		var v []api.Thing
		for _, id := range x.vertices {
			v = append(v, vertex(id, "v"))
		}
		for _, e := range smallEdges(x.edges, 2-x.edges%2, x.vertices) {
			g := api.Graph{V: v, E: e}
			checkPlainly(t, storeOf(t, g), g, labels...)
			if t.Failed() {
				t.Fatalf("vertices %v, edges %v", v, e)
			}
		}
	}
}

// As many vertices and edges as may be: all round about, and all in one place.
func TestAsManyAsMayBe(t *testing.T) {
	g := spread()
	s := storeOf(t, g)
	checkTables(t, s, g)
	for id := range api.MaxVertices + 2 {
		for _, way := range ids(0, api.Outward, api.Inward, api.Either, 4) {
			for _, labels := range [][]string{nil, names("b"), names("c", "a"), names("q")} {
				around, next := plainAround(g, id-1, way, labels...)
				checkAround(t, s, id-1, way, labels, around, next)
			}
		}
	}
	const at = api.MaxVertices - 1
	g = api.Graph{V: numbered(api.MaxVertices), E: loops(api.MaxEdges, at)}
	s = storeOf(t, g)
	one, ends := plainIDs(g.E), slices.Repeat(ids(at), api.MaxEdges)
	checkAround(t, s, at, api.Outward, nil, one, ends)
	checkAround(t, s, at, api.Inward, names("e"), one, ends)
	checkAround(t, s, at, api.Either, nil, slices.Repeat(one, 2), slices.Repeat(ends, 2))
	checkAround(t, s, 0, api.Either, nil, nil, nil)
}

// What holds: each edge is around both its ends, once each way, with the other
// end across; and around no other vertex.
func TestEachEdgeIsAroundBothItsEnds(t *testing.T) {
	for _, g := range []api.Graph{fresh(), spread()} {
		s := storeOf(t, g)
		spokes := 0
		for _, id := range s.Vertices() {
			spokes += len(s.Around(id, api.Either))
		}
		if spokes != 2*len(g.E) {
			t.Errorf("%d edges are around %d ends", len(g.E), spokes)
		}
		for _, x := range g.E {
			checkSpoke(t, s.Around(x.Out, api.Outward), s.Next(x.Out, api.Outward), x.ID, x.In)
			checkSpoke(t, s.Around(x.In, api.Inward), s.Next(x.In, api.Inward), x.ID, x.Out)
		}
	}
}

func checkSpoke(t *testing.T, around, next []int, edge, other int) {
	t.Helper()
	var at []int
	for i, id := range around {
		if id == edge {
			at = append(at, i)
		}
	}
	if len(at) != 1 || len(next) != len(around) || next[at[0]] != other {
		t.Errorf("edge %d to %d: around %s, next %s", edge, other, show(around), show(next))
	}
}

// Very many labels at once are no harm.
func TestManyLabels(t *testing.T) {
	s := storeOf(t, api.Graph{V: numbered(1), E: loops(api.MaxEdges, 0)})
	var labels []string
	for i := range 1 << 18 {
		labels = append(labels, fmt.Sprint("q", i))
	}
	checkAround(t, s, 0, api.Either, labels, nil, nil)
	labels = append(labels, "e")
	one := s.Edges()
	checkAround(t, s, 0, api.Either, labels, slices.Repeat(one, 2), make([]int, 2*api.MaxEdges))
}
