package graph_test

import (
	"slices"
	"testing"

	"wayfarer/api"
	"wayfarer/graph"
	"wayfarer/value"
)

func checkCheck(t *testing.T, what string, g api.Graph, want api.Errno) {
	t.Helper()
	if e := graph.Check(g); e != want {
		t.Errorf("Check of %s tells %d; want %d; V %s; E %s", what, e, want, showAll(g.V), showAll(g.E))
	}
}

func TestCheckOfWhatMayBe(t *testing.T) {
	for what, g := range map[string]api.Graph{
		"nothing":                {},
		"nothing, in rows":       {V: []api.Thing{}, E: []api.Thing{}},
		"a vertex 0":             {V: things(vertex(0, "a"))},
		"no edge":                {V: things(vertex(1, "a"), vertex(2, "a"))},
		"no properties, in rows": {V: things(api.Thing{Label: "a", Props: []api.Prop{}})},
		"the same ID of both":    {V: things(vertex(3, "a")), E: things(edge(3, "a", 3, 3))},
		"an edge 0":              {V: things(vertex(3, "a"), vertex(4, "a")), E: things(edge(0, "a", 4, 3))},
		"edges side by side":     {V: things(vertex(0, "a"), vertex(1, "a")), E: things(edge(0, "a", 0, 1), edge(1, "a", 0, 1), edge(2, "a", 1, 0))},
		"the greatest IDs":       {V: things(vertex(api.MaxInt-1, "a"), vertex(api.MaxInt, "a")), E: things(edge(api.MaxInt, "a", api.MaxInt, api.MaxInt-1))},
		"some of all":            fresh(),
	} {
		checkCheck(t, what, g, api.OK)
	}
}

func TestCheckOfLimits(t *testing.T) {
	all := api.Graph{V: vertices(api.MaxVertices), E: loops(api.MaxEdges, api.MaxVertices-1)}
	checkCheck(t, "as many as may be", all, api.OK)
	checkCheck(t, "a vertex too many", api.Graph{V: vertices(api.MaxVertices + 1)}, api.ErrGraph)
	checkCheck(t, "a vertex too many, and edges", api.Graph{V: vertices(api.MaxVertices + 1), E: all.E}, api.ErrGraph)
	checkCheck(t, "an edge too many", api.Graph{V: all.V, E: loops(api.MaxEdges+1, 0)}, api.ErrGraph)
	checkCheck(t, "an edge too many of one vertex", api.Graph{V: vertices(1), E: loops(api.MaxEdges+1, 0)}, api.ErrGraph)
	checkCheck(t, "more vertices than there may be", api.Graph{V: vertices(api.MaxEdges)}, api.ErrGraph)
}

// asVertexAndEdge: a graph with that thing as a vertex among others, and one
// with it as an edge among others.
func asVertexAndEdge(x api.Thing) []api.Graph {
	v := x
	v.Out, v.In = 0, 0
	ends := things(vertex(0, "v"), vertex(1, "v"))
	return []api.Graph{
		{V: things(v)},
		{V: things(v, vertex(api.MaxInt, "last"))},
		{V: things(vertex(0, "first"), v, vertex(api.MaxInt, "last"))},
		{V: ends, E: things(x)},
		{V: ends, E: things(edge(0, "first", 0, 0), x, edge(api.MaxInt, "last", 1, 0))},
	}
}

func checkAsBoth(t *testing.T, what string, x api.Thing, want api.Errno) {
	t.Helper()
	for _, g := range asVertexAndEdge(x) {
		checkCheck(t, what, g, want)
	}
}

func TestCheckOfLabels(t *testing.T) {
	for _, s := range names() {
		checkAsBoth(t, "a name as a label", edge(5, s, 0, 1), api.OK)
	}
	for _, s := range unnamed() {
		checkAsBoth(t, "no name as a label", edge(5, s, 0, 1), api.ErrGraph)
	}
}

func TestCheckOfKeys(t *testing.T) {
	one := num(1)
	for _, s := range names() {
		checkAsBoth(t, "a name as a key", edge(5, "a", 0, 1, prop(s, one)), api.OK)
	}
	for _, s := range unnamed() {
		checkAsBoth(t, "no name as a key", edge(5, "a", 0, 1, prop(s, one)), api.ErrGraph)
		checkAsBoth(t, "no name as a key behind one", edge(5, "a", 0, 1, prop("A", one), prop(s, one)), api.ErrGraph)
		checkAsBoth(t, "no name as a key ahead of one", edge(5, "a", 0, 1, prop(s, one), prop("zzz", one)), api.ErrGraph)
	}
	// Byte by byte: capitals, the line, small letters; a beginning first.
	rising := []string{"A", "A0", "AA", "A_", "Aa", "B", "Z", "_", "_0", "a", "a0", "aa", "b"}
	for i, a := range rising {
		for j, b := range rising {
			want := api.OK
			if i >= j {
				want = api.ErrGraph
			}
			checkAsBoth(t, "two keys", edge(5, "a", 0, 1, prop(a, one), prop(b, word("x"))), want)
		}
	}
	checkAsBoth(t, "keys that fall at the end", edge(5, "a", 0, 1, prop("a", one), prop("c", one), prop("b", one)), api.ErrGraph)
	checkAsBoth(t, "a key that is twice there, not side by side", edge(5, "a", 0, 1, prop("a", one), prop("b", one), prop("a", one)), api.ErrGraph)
}

func TestCheckOfManyProperties(t *testing.T) {
	checkAsBoth(t, "as many properties as may be", edge(5, "a", 0, 1, keyed(api.MaxProps)...), api.OK)
	checkAsBoth(t, "a property too many", edge(5, "a", 0, 1, keyed(api.MaxProps+1)...), api.ErrGraph)
}

func TestCheckOfValues(t *testing.T) {
	for _, v := range plain() {
		checkAsBoth(t, "a plain value", edge(5, "a", 0, 1, prop("k", v)), api.OK)
		checkAsBoth(t, "plain values", edge(5, "a", 0, 1, prop("a", v), prop("k", v), prop("l", v)), api.OK)
	}
	for _, v := range unplain() {
		checkAsBoth(t, "a value that is not plain", edge(5, "a", 0, 1, prop("k", v)), api.ErrGraph)
		checkAsBoth(t, "the last value is not plain", edge(5, "a", 0, 1, prop("a", num(1)), prop("k", v)), api.ErrGraph)
		checkAsBoth(t, "the first value is not plain", edge(5, "a", 0, 1, prop("a", v), prop("k", num(1))), api.ErrGraph)
	}
}

// smallThings: all rows of at most two things whose numbers are from -1 to 2.
func smallThings(ended bool) [][]api.Thing {
	few := []int{-1, 0, 1, 2}
	ends := []int{0}
	if ended {
		ends = few
	}
	all := [][]api.Thing{nil}
	longest := all
	for range 2 {
		var longer [][]api.Thing
		for _, l := range longest {
			for _, id := range few {
				for _, out := range ends {
					for _, in := range ends {
						longer = append(longer, append(slices.Clone(l), edge(id, "a", out, in)))
					}
				}
			}
		}
		all, longest = append(all, longer...), longer
	}
	return all
}

// mayBe tells in the plainest way whether these numbers may be a graph's.
func mayBe(v, e []api.Thing) bool {
	there := map[int]bool{}
	last := -1
	for _, x := range v {
		if x.ID <= last || x.Out != 0 || x.In != 0 {
			return false
		}
		last, there[x.ID] = x.ID, true
	}
	last = -1
	for _, x := range e {
		if x.ID <= last || !there[x.Out] || !there[x.In] {
			return false
		}
		last = x.ID
	}
	return true
}

func TestCheckOfSmallGraphs(t *testing.T) {
	for _, v := range smallThings(false) {
		for _, e := range smallThings(true) {
			want := api.ErrGraph
			if mayBe(v, e) {
				want = api.OK
			}
			checkCheck(t, "a small graph", api.Graph{V: v, E: e}, want)
		}
	}
	for _, v := range smallThings(true) {
		want := api.ErrGraph
		if mayBe(v, nil) {
			want = api.OK
		}
		checkCheck(t, "vertices", api.Graph{V: v}, want)
	}
}

func TestCheckOfWrongNumbers(t *testing.T) {
	for what, change := range map[string]func(g *api.Graph){
		"a vertex below 0":             func(g *api.Graph) { g.V[0].ID = -1 },
		"the least vertex":             func(g *api.Graph) { g.V[0].ID = api.MinInt },
		"a vertex twice":               func(g *api.Graph) { g.V[1].ID = 0 },
		"vertices that fall":           func(g *api.Graph) { g.V[0], g.V[1] = g.V[1], g.V[0] },
		"the last vertex falls":        func(g *api.Graph) { g.V = append(g.V, vertex(6, "a")) },
		"a vertex that goes out":       func(g *api.Graph) { g.V[0].Out = 1 },
		"a vertex that goes in":        func(g *api.Graph) { g.V[2].In = 7 },
		"a vertex that goes below 0":   func(g *api.Graph) { g.V[2].In = -1 },
		"an edge below 0":              func(g *api.Graph) { g.E[0].ID = -1 },
		"the least edge":               func(g *api.Graph) { g.E[0].ID = api.MinInt },
		"an edge twice":                func(g *api.Graph) { g.E[1].ID = 0 },
		"edges that fall":              func(g *api.Graph) { g.E[0], g.E[1] = g.E[1], g.E[0] },
		"the last edge falls":          func(g *api.Graph) { g.E = append(g.E, edge(3, "a", 0, 0)) },
		"out of no vertex":             func(g *api.Graph) { g.E[0].Out = 2 },
		"in to no vertex":              func(g *api.Graph) { g.E[3].In = 6 },
		"out of what is below 0":       func(g *api.Graph) { g.E[1].Out = -1 },
		"in to what is below 0":        func(g *api.Graph) { g.E[1].In = api.MinInt },
		"out of an edge":               func(g *api.Graph) { g.E[0].Out = api.MaxInt },
		"in to a vertex that was":      func(g *api.Graph) { g.V = g.V[:2] },
		"edges alone":                  func(g *api.Graph) { g.V = nil },
		"an edge from 0 to 0, no such": func(g *api.Graph) { *g = api.Graph{V: things(vertex(1, "a")), E: things(edge(0, "a", 0, 0))} },
		"an edge, and no vertex 0":     func(g *api.Graph) { *g = api.Graph{E: things(edge(0, "a", 0, 0))} },
	} {
		g := fresh()
		change(&g)
		checkCheck(t, what, g, api.ErrGraph)
	}
}

func TestCheckChangesNothing(t *testing.T) {
	g := fresh()
	graph.Check(g)
	checkGraph(t, "what was handed in", g, fresh())
	g.E[1].Props = props(prop("b", num(1)), prop("a", value.Row(num(2), num(1))))
	want := clone(g)
	graph.Check(g)
	checkGraph(t, "what was handed in", g, want)
}
