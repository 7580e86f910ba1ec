package store

import (
	"cmp"
	"slices"

	"wayfarer/api"
	"wayfarer/graph"
)

// table is things of one kind, by rising IDs.
type table struct {
	things []api.Thing
}

func (t *table) count() int { return len(t.things) }

func (t *table) place(id int) (int, bool) {
	return slices.BinarySearchFunc(t.things, id, func(x api.Thing, id int) int {
		return cmp.Compare(x.ID, id)
	})
}

// find is that thing, in new memory, and whether there is one.
func (t *table) find(id int) (api.Thing, bool) {
	i, ok := t.place(id)
	if !ok {
		return api.Thing{}, false
	}
	return graph.At(t.things[i:], id)
}

// which is of these IDs those that there are; without any, all.
func (t *table) which(ids ...int) []int {
	if len(ids) == 0 {
		return numbers(t.things, func(x api.Thing) int { return x.ID })
	}
	there := make([]int, 0, len(ids))
	for _, id := range ids {
		if _, ok := t.place(id); ok {
			there = append(there, id)
		}
	}
	return there
}

// numbers is one of each, in order.
func numbers[T any](l []T, of func(T) int) []int {
	all := make([]int, 0, len(l))
	for _, x := range l {
		all = append(all, of(x))
	}
	return all
}
