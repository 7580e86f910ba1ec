package graph

import (
	"cmp"
	"slices"

	"wayfarer/api"
)

// ids: numbers that there are.
type ids map[int]struct{}

func (l ids) has(id int) bool {
	_, ok := l[id]
	return ok
}

func idsOf(things []api.Thing) ids {
	l := make(ids, len(things))
	for _, t := range things {
		l[t.ID] = struct{}{}
	}
	return l
}

// Check is ErrGraph, unless g is vertices, and edges between these.
func Check(g api.Graph) api.Errno {
	if !areVertices(g.V) || !areEdges(g.E, idsOf(g.V)) {
		return api.ErrGraph
	}
	return api.OK
}

func areVertices(l []api.Thing) bool {
	ended := func(t api.Thing) bool { return t.Out != 0 || t.In != 0 }
	return areThings(l, api.MaxVertices) && !slices.ContainsFunc(l, ended)
}

func areEdges(l []api.Thing, vertices ids) bool {
	loose := func(t api.Thing) bool { return !vertices.has(t.Out) || !vertices.has(t.In) }
	return areThings(l, api.MaxEdges) && !slices.ContainsFunc(l, loose)
}

// areThings tells whether these are things, at most so many, by rising IDs.
func areThings(l []api.Thing, most int) bool {
	wrong := func(t api.Thing) bool { return !isThing(t) }
	id := func(t api.Thing) int { return t.ID }
	return len(l) <= most && !slices.ContainsFunc(l, wrong) && rises(l, id)
}

// isThing tells whether t is one, wherever it goes out of and in to.
func isThing(t api.Thing) bool {
	return t.ID >= 0 && Name(t.Label) && areProps(t.Props)
}

func areProps(l []api.Prop) bool {
	wrong := func(p api.Prop) bool { return !Name(p.Key) || !Plain(p.V) }
	key := func(p api.Prop) string { return p.Key }
	return len(l) <= api.MaxProps && !slices.ContainsFunc(l, wrong) && rises(l, key)
}

// rises tells whether each stands ahead of the next one, so that none is there
// twice.
func rises[T any, K cmp.Ordered](l []T, by func(T) K) bool {
	for i := 1; i < len(l); i++ {
		if by(l[i-1]) >= by(l[i]) {
			return false
		}
	}
	return true
}
