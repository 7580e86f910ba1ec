package store

import (
	"slices"

	"wayfarer/api"
)

// vertices is the table of vertices.
type vertices struct {
	table
}

func verticesOf(l []api.Thing) vertices {
	return vertices{table{l}}
}

// edges is the table of edges, and what they are around.
type edges struct {
	table
	around map[side][]spoke
}

// side is a vertex, and one of the two ways in which edges lie around it:
// Outward or Inward.
type side struct {
	vertex int
	way    int
}

// spoke is an edge, seen from one of its ends.
type spoke struct {
	edge  int
	label string
	other int
}

func edgesOf(l []api.Thing) edges {
	around := make(map[side][]spoke)
	// Edges come by rising IDs, so those on each side rise as well.
	for _, x := range l {
		from, to := side{x.Out, api.Outward}, side{x.In, api.Inward}
		around[from] = append(around[from], spoke{edge: x.ID, label: x.Label, other: x.In})
		around[to] = append(around[to], spoke{edge: x.ID, label: x.Label, other: x.Out})
	}
	return edges{table{l}, around}
}

// seen is the edges that lie that way around a vertex, and that have one of
// these labels, if there are any.
func (e *edges) seen(id int, way int, labels ...string) []spoke {
	l := e.around[side{id, way}]
	if way == api.Either {
		l = slices.Concat(e.around[side{id, api.Outward}], e.around[side{id, api.Inward}])
	}
	if len(labels) == 0 {
		return l
	}
	return labelled(l, labels...)
}

// labelled is those that have one of these labels.
func labelled(l []spoke, labels ...string) []spoke {
	wanted := make(map[string]struct{}, len(labels))
	for _, label := range labels {
		wanted[label] = struct{}{}
	}
	var some []spoke
	for _, x := range l {
		if _, ok := wanted[x.label]; ok {
			some = append(some, x)
		}
	}
	return some
}
