package store_test

import (
	"slices"
	"testing"

	"wayfarer/api"
	"wayfarer/store"
)

// scribbleProps writes over properties, what their values hold, and the room
// behind all of it.
func scribbleProps(l []api.Prop) {
	for _, p := range l {
		for row, i := p.V.L[:cap(p.V.L)], 0; i < len(row); i++ {
			row[i] = api.Value{Kind: 77, S: "written over"}
		}
	}
	for row, i := l[:cap(l)], 0; i < len(row); i++ {
		row[i] = prop("written over", api.Value{Kind: 77})
	}
}

// scribble writes over all that g has, and the room behind it.
func scribble(g api.Graph) {
	for _, l := range [][]api.Thing{g.V, g.E} {
		for _, x := range l {
			scribbleProps(x.Props)
		}
		for row, i := l[:cap(l)], 0; i < len(row); i++ {
			row[i] = edge(-77, "written over", -77, -77)
		}
	}
}

// scribbleIDs writes over a row of numbers, and the room behind it.
func scribbleIDs(l []int) {
	l = l[:cap(l)]
	for i := range l {
		l[i] = -77
	}
}

// roomy: fresh, with room behind each row, in which something stands.
func roomy() api.Graph {
	g := fresh()
	for _, l := range []*[]api.Thing{&g.V, &g.E} {
		for i, x := range *l {
			for j, p := range x.Props {
				n := len(p.V.L)
				x.Props[j].V.L = append(slices.Clip(p.V.L), num(99))[: n : n+1]
			}
			n := len(x.Props)
			(*l)[i].Props = append(slices.Clip(x.Props), prop("behind", num(99)))[: n : n+1]
		}
		n := len(*l)
		*l = append(slices.Clip(*l), edge(99, "behind", 0, 0))[: n : n+1]
	}
	return g
}

// checkRoom: what stands behind the rows of roomy is as it was.
func checkRoom(t *testing.T, g api.Graph) {
	t.Helper()
	for _, l := range [][]api.Thing{g.V, g.E} {
		if x := l[:len(l)+1][len(l)]; !alike(x, edge(99, "behind", 0, 0)) {
			t.Error("the room behind things was written over")
		}
		for _, x := range l {
			if p := x.Props[:len(x.Props)+1][len(x.Props)]; p.Key != "behind" || !equal(p.V, num(99)) {
				t.Error("the room behind properties was written over")
			}
			for _, p := range x.Props {
				if v := p.V.L[:len(p.V.L)+1][len(p.V.L)]; !equal(v, num(99)) {
					t.Error("the room behind items was written over")
				}
			}
		}
	}
}

// What was handed in is not changed, and may be written over afterwards.
func TestGraphIsNotKept(t *testing.T) {
	g := roomy()
	s := storeOf(t, g)
	checkPlainly(t, s, fresh(), someLabels()...)
	if !alikeGraph(g, fresh()) {
		t.Error("what was handed in was changed")
	}
	checkRoom(t, g)
	scribble(g)
	checkPlainly(t, s, fresh(), someLabels()...)
}

// Each field by itself, of each thing, written over.
func TestNoFieldIsKept(t *testing.T) {
	for what, change := range map[string]func(x *api.Thing){
		"ID":               func(x *api.Thing) { x.ID = 4 },
		"label":            func(x *api.Thing) { x.Label = "q" },
		"out":              func(x *api.Thing) { x.Out = 6 },
		"in":               func(x *api.Thing) { x.In = 6 },
		"properties":       func(x *api.Thing) { x.Props = nil },
		"keys":             func(x *api.Thing) { each(x, func(p *api.Prop) { p.Key = "q" }) },
		"values":           func(x *api.Thing) { each(x, func(p *api.Prop) { p.V = num(77) }) },
		"items of a value": func(x *api.Thing) { each(x, func(p *api.Prop) { clear(p.V.L) }) },
	} {
		g := fresh()
		s := storeOf(t, g)
		for _, l := range [][]api.Thing{g.V, g.E} {
			for i := range l {
				change(&l[i])
			}
		}
		if alikeGraph(g, fresh()) {
			t.Errorf("%s: nothing was written over", what)
		}
		checkPlainly(t, s, fresh(), someLabels()...)
	}
}

func each(x *api.Thing, change func(p *api.Prop)) {
	for i := range x.Props {
		change(&x.Props[i])
	}
}

// IDs and labels that are handed in are neither changed nor kept, nor is an
// answer the row in which they came.
func TestArgumentsAreNotKept(t *testing.T) {
	s := storeOf(t, fresh())
	for _, call := range []func(...int) []int{s.Vertices, s.Edges} {
		asked := ids(5, 9, 0, 5, 1, 77)
		got := call(asked[:5]...)
		want := slices.Clone(got)
		if !slices.Equal(asked, ids(5, 9, 0, 5, 1, 77)) {
			t.Error("IDs that were handed in were changed:", asked)
		}
		scribbleIDs(asked)
		checkIDs(t, "of IDs that are written over", got, want)
		asked = ids(5, 0, 1, 77)
		scribbleIDs(call(asked[:3]...))
		checkIDs(t, "IDs that were handed in", asked, ids(5, 0, 1, 77))
	}
	for _, call := range []func(int, int, ...string) []int{s.Around, s.Next} {
		labels := names("likes", "knows", "likes", "behind")
		got := call(0, api.Either, labels[:3]...)
		want := slices.Clone(got)
		if !slices.Equal(labels, names("likes", "knows", "likes", "behind")) {
			t.Error("labels that were handed in were changed:", labels)
		}
		clear(labels)
		checkIDs(t, "of labels that are written over", got, want)
		checkIDs(t, "again, with the labels as they were", call(0, api.Either, "likes", "knows"), want)
	}
}

// lists: the calls that answer lists, each in several ways.
func lists(s *store.Store) []func() []int {
	all := []func() []int{
		func() []int { return s.Vertices() },
		func() []int { return s.Vertices(0, 1, 5, 6, api.MaxInt) },
		func() []int { return s.Vertices(5, 0) },
		func() []int { return s.Edges() },
		func() []int { return s.Edges(0, 1, 2) },
	}
	for _, way := range ids(api.Outward, api.Inward, api.Either) {
		for _, labels := range [][]string{nil, names("knows"), names("likes", "knows", "in", "ends")} {
			all = append(all,
				func() []int { return s.Around(0, way, labels...) },
				func() []int { return s.Next(0, way, labels...) },
				func() []int { return s.Around(1, way, labels...) },
				func() []int { return s.Next(1, way, labels...) })
		}
	}
	return all
}

// What comes out may be written over, with the room behind it: no later
// answer, and none that came out before, is another one then.
func TestListsAreTheirOwners(t *testing.T) {
	s := storeOf(t, fresh())
	calls := lists(s)
	var got, want [][]int
	for _, call := range calls {
		l := call()
		got, want = append(got, l), append(want, slices.Clone(l))
	}
	for i, call := range calls {
		if len(got[i]) == 0 {
			t.Error("a call that should tell something tells nothing:", i)
		}
		scribbleIDs(call())
		for j := range calls {
			checkIDs(t, "a list that came out before", got[j], want[j])
			checkIDs(t, "a list that comes out afterwards", calls[j](), want[j])
		}
	}
	checkPlainly(t, s, fresh(), someLabels()...)
}

func TestThingsAreTheirOwners(t *testing.T) {
	g := fresh()
	s := storeOf(t, g)
	for _, x := range []struct {
		call func(int) (api.Thing, bool)
		l    []api.Thing
	}{{s.Vertex, g.V}, {s.Edge, g.E}} {
		for _, want := range x.l {
			got, _ := x.call(want.ID)
			other, ok := x.call(want.ID)
			scribbleProps(got.Props)
			checkThing(t, "a thing that came out before", other, ok, want, true)
			later, ok := x.call(want.ID)
			checkThing(t, "a thing that comes out afterwards", later, ok, want, true)
			checkPropsApart(t, x.call, want)
		}
	}
	checkPlainly(t, s, fresh(), someLabels()...)
}

// checkPropsApart: no two values of one thing share a row.
func checkPropsApart(t *testing.T, call func(int) (api.Thing, bool), want api.Thing) {
	t.Helper()
	for i := range want.Props {
		got, ok := call(want.ID)
		row := got.Props[i].V.L
		for j := range row[:cap(row)] {
			row[:cap(row)][j] = num(77)
		}
		got.Props[i] = want.Props[i]
		checkThing(t, "beside a value that is written over", got, ok, want, true)
	}
}

// A row that is handed in for several properties and things is each one's own
// when it comes out.
func TestRowsHandedInTwice(t *testing.T) {
	shared := list(num(1), num(2))
	props := []api.Prop{prop("a", shared), prop("b", shared)}
	g := api.Graph{V: things(vertex(0, "v", props...), vertex(1, "v", props...)), E: things(edge(0, "e", 0, 1, props...))}
	s := storeOf(t, g)
	want := vertex(1, "v", prop("a", list(num(1), num(2))), prop("b", list(num(1), num(2))))
	got, _ := s.Vertex(0)
	of, _ := s.Edge(0)
	scribbleProps(got.Props)
	scribbleProps(of.Props)
	later, ok := s.Vertex(1)
	checkThing(t, "another vertex", later, ok, want, true)
	checkPropsApart(t, s.Vertex, want)
}

// Two stores know nothing of one another, nor of one that was refused.
func TestStoresKnowNothingOfOneAnother(t *testing.T) {
	g, other := fresh(), api.Graph{V: things(vertex(0, "v", prop("age", num(4))), vertex(1, "v")), E: things(edge(1, "likes", 1, 0), edge(9, "knows", 0, 0))}
	s, o, again := storeOf(t, g), storeOf(t, other), storeOf(t, g)
	checkRefused(t, "a graph without its vertices", api.Graph{E: g.E})
	for range 2 {
		checkPlainly(t, s, fresh(), someLabels()...)
		checkPlainly(t, o, other, someLabels()...)
		checkPlainly(t, again, fresh(), someLabels()...)
	}
	x, _ := s.Vertex(0)
	scribbleProps(x.Props)
	scribbleIDs(s.Around(1, api.Either))
	checkPlainly(t, again, fresh(), someLabels()...)
	checkNothing(t, nil)
	checkNothing(t, storeOf(t, api.Graph{}))
}
