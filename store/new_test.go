package store_test

import (
	"slices"
	"strings"
	"testing"

	"wayfarer/api"
	"wayfarer/store"
)

func checkRefused(t *testing.T, what string, g api.Graph) {
	t.Helper()
	s, e := store.New(g)
	if e != api.ErrGraph || s != nil {
		t.Errorf("New of %s tells %d, and a store is there: %v", what, e, s != nil)
	}
}

// One thing is as it may not be; all else is as in fresh.
func TestNewOfWrongThings(t *testing.T) {
	for what, change := range map[string]func(g *api.Graph){
		"a vertex below 0":                func(g *api.Graph) { g.V[0].ID = -1 },
		"the least vertex":                func(g *api.Graph) { g.V[0].ID = api.MinInt },
		"a vertex twice":                  func(g *api.Graph) { g.V[3].ID = 5 },
		"vertices that fall":              func(g *api.Graph) { g.V[2], g.V[3] = g.V[3], g.V[2] },
		"a vertex that goes out":          func(g *api.Graph) { g.V[1].Out = 1 },
		"a vertex that goes in":           func(g *api.Graph) { g.V[4].In = 1 },
		"a vertex without a label":        func(g *api.Graph) { g.V[1].Label = "" },
		"a vertex whose label is no name": func(g *api.Graph) { g.V[4].Label = "2x" },
		"a label that is too long":        func(g *api.Graph) { g.V[1].Label = letters(api.MaxName + 1) },
		"an edge below 0":                 func(g *api.Graph) { g.E[0].ID = -1 },
		"the least edge":                  func(g *api.Graph) { g.E[0].ID = api.MinInt },
		"an edge twice":                   func(g *api.Graph) { g.E[1].ID = 0 },
		"edges that fall":                 func(g *api.Graph) { g.E[6], g.E[7] = g.E[7], g.E[6] },
		"an edge without a label":         func(g *api.Graph) { g.E[3].Label = "" },
		"an edge whose label is no name":  func(g *api.Graph) { g.E[9].Label = "a-b" },
		"an edge out of no vertex":        func(g *api.Graph) { g.E[3].Out = 9 },
		"an edge out of what is an edge":  func(g *api.Graph) { g.E[3].Out = 7 },
		"an edge out of below 0":          func(g *api.Graph) { g.E[3].Out = -1 },
		"an edge in to no vertex":         func(g *api.Graph) { g.E[9].In = api.MaxInt - 1 },
		"an edge in to below 0":           func(g *api.Graph) { g.E[0].In = -1 },
		"no vertices":                     func(g *api.Graph) { g.V = nil },
		"the last vertex missing":         func(g *api.Graph) { g.V = g.V[:4] },
		"the first vertex missing":        func(g *api.Graph) { g.V = g.V[1:] },
	} {
		g := fresh()
		change(&g)
		checkRefused(t, what, g)
	}
}

func TestNewOfWrongProperties(t *testing.T) {
	endless := make([]api.Value, api.MaxItems)
	for i := range endless {
		endless[i] = list(endless...)
	}
	// What is handed in as one list is that list, so this one lies within itself.
	wide := api.Value{Kind: api.List, L: endless}
	for what, l := range map[string][]api.Prop{
		"a key that is no name":        {prop("2x", num(1))},
		"an empty key":                 {prop("", num(1))},
		"a key that is too long":       {prop(letters(api.MaxName+1), num(1))},
		"a key twice":                  {prop("a", num(1)), prop("a", num(1))},
		"keys that fall":               {prop("b", num(1)), prop("a", num(1))},
		"no value":                     {prop("a", api.Value{})},
		"a value of no kind":           {prop("a", api.Value{Kind: 9})},
		"a Bool that is none":          {prop("a", api.Value{Kind: api.Bool, N: 2})},
		"a text that is too long":      {prop("a", word(letters(api.MaxText+1)))},
		"a list that is too long":      {prop("a", list(slices.Repeat([]api.Value{num(1)}, api.MaxItems+1)...))},
		"a vertex as a value":          {prop("a", api.Value{Kind: api.Vertex, N: 1})},
		"an edge as a value":           {prop("a", api.Value{Kind: api.Edge, N: 1})},
		"a path as a value":            {prop("a", api.Value{Kind: api.Path})},
		"a map as a value":             {prop("a", api.Value{Kind: api.Map})},
		"a list in a list":             {prop("a", list(num(1), list()))},
		"a vertex in a list":           {prop("a", list(api.Value{Kind: api.Vertex}))},
		"a list that lies in itself":   {prop("a", wide)},
		"the last one of two is wrong": {prop("a", num(1)), prop("b", list(list()))},
		"too many":                     keyed(api.MaxProps + 1),
	} {
		g := fresh()
		g.V[3].Props = l
		checkRefused(t, what+", of a vertex", g)
		g = fresh()
		g.E[9].Props = l
		checkRefused(t, what+", of an edge", g)
	}
}

func TestNewOfTooMany(t *testing.T) {
	checkRefused(t, "a vertex too many", api.Graph{V: numbered(api.MaxVertices + 1)})
	checkRefused(t, "a vertex too many, with edges", api.Graph{V: numbered(api.MaxVertices + 1), E: loops(3, 0)})
	checkRefused(t, "an edge too many", api.Graph{V: numbered(1), E: loops(api.MaxEdges+1, 0)})
	checkRefused(t, "an edge too many of all vertices", api.Graph{V: numbered(api.MaxVertices), E: loops(api.MaxEdges+1, 9)})
	checkRefused(t, "very many", api.Graph{V: make([]api.Thing, 1<<18), E: make([]api.Thing, 1<<18)})
	checkRefused(t, "edges alone", api.Graph{E: loops(1, 0)})
}

// The graph of nothing has a store, too: one in which nothing is found.
func TestNewOfNothing(t *testing.T) {
	for _, g := range []api.Graph{{}, {V: things(), E: things()}, {V: make([]api.Thing, 0, 9)}} {
		checkPlainly(t, storeOf(t, g), api.Graph{}, someLabels()...)
	}
}

func TestNewOfVerticesAlone(t *testing.T) {
	g := api.Graph{V: fresh().V}
	checkPlainly(t, storeOf(t, g), g, someLabels()...)
}

// checkNothing: no call finds anything, whatever it is asked for.
func checkNothing(t *testing.T, s *store.Store) {
	t.Helper()
	checkLen(t, "nothing", s, 0, 0)
	checkIDs(t, "Vertices", s.Vertices(), nil)
	checkIDs(t, "Edges", s.Edges(), nil)
	many := slices.Concat(someIDs(fresh()), make([]int, 5000))
	checkIDs(t, "Vertices of some", s.Vertices(many...), nil)
	checkIDs(t, "Edges of some", s.Edges(many...), nil)
	long := []string{strings.Repeat("long", 5000)}
	for _, id := range someIDs(fresh()) {
		checkIDs(t, "Vertices of one", s.Vertices(id), nil)
		checkIDs(t, "Edges of one", s.Edges(id), nil)
		x, ok := s.Vertex(id)
		checkThing(t, "Vertex", x, ok, api.Thing{}, false)
		x, ok = s.Edge(id)
		checkThing(t, "Edge", x, ok, api.Thing{}, false)
		for _, way := range someWays() {
			for _, labels := range append(someLabels(), long) {
				checkAround(t, s, id, way, labels, nil, nil)
			}
		}
	}
}

func TestNilStore(t *testing.T) {
	checkNothing(t, nil)
}

// A store that New did not make has nothing in it, either.
func TestStoreNotMadeByNew(t *testing.T) {
	checkNothing(t, new(store.Store))
	checkNothing(t, &store.Store{})
}
