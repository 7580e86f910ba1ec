package script

import (
	"maps"
	"slices"

	"wayfarer/api"
)

// pile is the things of one kind, by their IDs, and how many there may be.
type pile struct {
	most   int
	things map[int]laid
}

// laid is a thing, and what its properties were set to last. They become a
// row when all lines are read: graph.With copies all of them, wide rows among
// them, and that for each line would make a script's time grow by its square.
type laid struct {
	thing api.Thing
	props map[string]api.Value
}

func newPile(most int) pile {
	return pile{most: most, things: map[int]laid{}}
}

func (p pile) has(id int) bool {
	_, ok := p.things[id]
	return ok
}

// lay lays a thing whose ID is not there.
func (p pile) lay(t api.Thing) api.Errno {
	if len(p.things) >= p.most {
		return api.ErrLong
	}
	p.things[t.ID] = laid{thing: t, props: map[string]api.Value{}}
	return api.OK
}

// set is the form of lines that set a property of one of these things.
func (p pile) set(w *words) api.Errno {
	id, key, v := w.number(), w.name(), w.value()
	if !w.fit() {
		return api.ErrText
	}
	t, ok := p.things[id]
	if !ok {
		return api.ErrNone
	}
	if _, there := t.props[key]; !there && len(t.props) >= api.MaxProps {
		return api.ErrLong
	}
	t.props[key] = v
	return api.OK
}

// all is the things by rising IDs.
func (p pile) all() []api.Thing {
	var l []api.Thing
	for _, id := range slices.Sorted(maps.Keys(p.things)) {
		l = append(l, p.things[id].whole())
	}
	return l
}

// whole is the thing with its properties, by rising keys.
func (t laid) whole() api.Thing {
	for _, key := range slices.Sorted(maps.Keys(t.props)) {
		t.thing.Props = append(t.thing.Props, api.Prop{Key: key, V: t.props[key]})
	}
	return t.thing
}
