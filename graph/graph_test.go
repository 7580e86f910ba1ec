package graph_test

import (
	"slices"
	"testing"

	"wayfarer/api"
	"wayfarer/graph"
	"wayfarer/value"
)

func checkAt(t *testing.T, l []api.Thing, id int, want api.Thing, wantOK bool) {
	t.Helper()
	got, ok := graph.At(l, id)
	if ok != wantOK {
		t.Errorf("At %d of %s: %v; want %v", id, showAll(l), ok, wantOK)
	}
	checkThing(t, "At", got, want)
}

func TestAt(t *testing.T) {
	g := fresh()
	for _, l := range [][]api.Thing{g.V, g.E, vertices(api.MaxVertices)} {
		for _, x := range l {
			checkAt(t, l, x.ID, x, true)
		}
		for _, id := range []int{api.MinInt, -1, 5000, 1 << 40, api.MaxInt - 1} {
			checkAt(t, l, id, api.Thing{}, false)
		}
	}
	for _, none := range [][]api.Thing{nil, {}} {
		for _, id := range []int{api.MinInt, -1, 0, 1, api.MaxInt} {
			checkAt(t, none, id, api.Thing{}, false)
		}
	}
}

// The first one, in whichever order; be it a thing or not.
func TestAtOfAnyList(t *testing.T) {
	l := things(
		edge(5, "", -3, -4, prop("z", num(1)), prop("a", path(num(1)))),
		vertex(2, "a"),
		vertex(5, "later"),
		edge(-1, "0", 9, 9),
		vertex(0, "none", prop("", api.Value{})),
		vertex(2, "a", prop("later", num(1))),
		vertex(api.MinInt, "least"),
	)
	for _, i := range []int{0, 1, 3, 4, 6} {
		checkAt(t, l, l[i].ID, l[i], true)
	}
	for _, id := range []int{1, 3, 4, 6, -2, api.MaxInt} {
		checkAt(t, l, id, api.Thing{}, false)
	}
	// The same number, asked for twice.
	checkAt(t, l, 5, l[0], true)
	checkAt(t, l, 5, l[0], true)
}

func checkProp(t *testing.T, x api.Thing, key string, want api.Value, wantOK bool) {
	t.Helper()
	got, ok := graph.Prop(x, key)
	if ok != wantOK || !equal(got, want) {
		t.Errorf("Prop %.60q of %s: %s, %v; want %s, %v", key, show(x), showValue(got), ok, showValue(want), wantOK)
	}
}

func TestProp(t *testing.T) {
	for _, x := range append(slices.Concat(fresh().V, fresh().E), vertex(1, "full", keyed(api.MaxProps)...)) {
		for _, p := range x.Props {
			checkProp(t, x, p.Key, p.V, true)
		}
		for _, key := range []string{"", "ag", "agee", "Age", "none", "person", "0"} {
			checkProp(t, x, key, api.Value{}, false)
		}
	}
	for _, none := range []api.Thing{{}, vertex(1, "a"), {Label: "a", Props: []api.Prop{}}} {
		checkProp(t, none, "a", api.Value{}, false)
		checkProp(t, none, "", api.Value{}, false)
	}
	for _, v := range plain() {
		checkProp(t, edge(1, "a", 1, 2, prop("a", num(0)), prop("b", v), prop("c", num(0))), "b", v, true)
	}
}

// The first one, in whichever order; be it a property or not.
func TestPropOfAnyThing(t *testing.T) {
	x := vertex(-1, "", prop("b", num(1)), prop("a", path(num(2))), prop("", num(3)), prop("b", num(4)), prop("a b", dict(num(1), num(5))), prop("c", api.Value{Kind: 9, N: 6, S: "x"}))
	checkProp(t, x, "b", num(1), true)
	checkProp(t, x, "a", path(num(2)), true)
	checkProp(t, x, "", num(3), true)
	checkProp(t, x, "a b", dict(num(1), num(5)), true)
	checkProp(t, x, "c", api.Value{Kind: 9, N: 6, S: "x"}, true)
	checkProp(t, x, "d", api.Value{}, false)
	checkProp(t, x, "b", num(1), true)
}

func TestCopy(t *testing.T) {
	odd := api.Graph{
		V: things(edge(5, "", 1, 2, prop("z", dict(num(1), path(num(2)))), prop("a", list(list(num(1)))), prop("z", api.Value{})), vertex(-1, "9")),
		E: things(edge(-5, "no name", 8, 9, prop("", num(1))), edge(-5, "", 8, 9)),
	}
	many := api.Graph{V: vertices(api.MaxVertices + 1), E: loops(api.MaxEdges+1, 0)}
	full := api.Graph{V: things(vertex(0, "a", keyed(api.MaxProps+1)...))}
	for what, g := range map[string]api.Graph{
		"nothing": {}, "vertices": {V: fresh().V}, "edges": {E: fresh().E}, "some of all": fresh(),
		"what is no graph": odd, "what is too many": many, "what has too many": full,
	} {
		checkGraph(t, what, graph.Copy(g), g)
	}
	checkGraph(t, "rows without things", graph.Copy(api.Graph{V: []api.Thing{}, E: []api.Thing{}}), api.Graph{})
}

// What is deeper than MaxDepth is copied as far as value.Copy goes.
func TestCopiesEndBelowMaxDepth(t *testing.T) {
	for _, v := range []api.Value{within(num(1), api.MaxDepth), within(num(1), 5000), endless(api.List, 1), endless(api.Map, 1), endless(api.Path, 2)} {
		x := vertex(1, "a", prop("k", v))
		want := value.Copy(v)
		c := graph.Copy(api.Graph{V: things(x), E: things(x)})
		at, _ := graph.At(things(x), 1)
		for _, y := range []api.Thing{c.V[0], c.E[0], at} {
			if !equal(y.Props[0].V, want) {
				t.Errorf("%s was copied as another one", showValue(v))
			}
		}
		if got, ok := graph.Prop(x, "k"); !ok || !equal(got, want) {
			t.Errorf("%s was found as another one", showValue(v))
		}
	}
}

// row: n numbers with room behind them.
func row(n int) []api.Value {
	return append(numbers(n), num(99))[:n]
}

// roomy: a graph with room behind each row, and rows that are there twice.
func roomy() api.Graph {
	shared := list(row(3)...)
	twice := append(props(prop("a", shared), prop("b", shared)), prop("c", num(9)))[:2]
	v := append(things(vertex(0, "a", twice...), vertex(1, "b", twice...)), vertex(2, "c"))[:2]
	e := append(things(edge(0, "a", 0, 1, twice...), edge(1, "b", 1, 0, twice...)), edge(2, "c", 0, 0))[:2]
	return api.Graph{V: v, E: e}
}

// Whatever is done to what was handed in, or to one answer, another answer
// stays as it is; and so does what was handed in, with the room behind it.
func TestCopyIsItsOwners(t *testing.T) {
	g := roomy()
	want := clone(g)
	got, other := graph.Copy(g), graph.Copy(g)
	checkGraph(t, "a copy", got, want)
	scribbleThings(got.V)
	scribbleThings(got.E)
	checkGraph(t, "what was handed in", g, want)
	checkGraph(t, "another copy", other, want)
	checkThing(t, "behind vertices", g.V[:3][2], vertex(2, "c"))
	checkThing(t, "behind edges", g.E[:3][2], edge(2, "c", 0, 0))
	if p := g.V[0].Props[:3][2]; p.Key != "c" || p.V.N != 9 {
		t.Error("the room behind properties was written over")
	}
	if v := g.V[0].Props[0].V.L[:4][3]; v.N != 99 {
		t.Error("the room behind items was written over")
	}
	scribbleThings(g.V)
	scribbleThings(g.E)
	checkGraph(t, "a copy of what is written over", other, want)
}

// No two rows of one copy share any.
func TestCopySharesNothingWithin(t *testing.T) {
	want := clone(roomy())
	for i := range want.V {
		c := graph.Copy(roomy())
		scribbleThing(c.V[i])
		checkThing(t, "the other vertex", c.V[1-i], want.V[1-i])
		checkThings(t, "edges", c.E, want.E)
		c = graph.Copy(roomy())
		scribbleThing(c.E[i])
		checkThing(t, "the other edge", c.E[1-i], want.E[1-i])
		checkThings(t, "vertices", c.V, want.V)
		c = graph.Copy(roomy())
		scribble(c.V[0].Props[i].V, 1)
		if !equal(c.V[0].Props[1-i].V, want.V[0].Props[1-i].V) {
			t.Error("two properties share a row")
		}
		scribbleThings(c.V)
		checkThings(t, "edges behind vertices", c.E, want.E)
	}
}

func TestWhatIsFoundIsItsOwners(t *testing.T) {
	g := roomy()
	want := clone(g)
	for i := range g.V {
		got, _ := graph.At(g.V, i)
		other, _ := graph.At(g.V, i)
		scribble(got.Props[0].V, 1)
		if !equal(got.Props[1].V, want.V[i].Props[1].V) {
			t.Error("two properties of a thing that was found share a row")
		}
		scribbleThing(got)
		checkThing(t, "found again", other, want.V[i])
		v, _ := graph.Prop(g.V[i], "a")
		w, _ := graph.Prop(g.V[i], "a")
		scribble(v, 1)
		if !equal(w, want.V[i].Props[0].V) {
			t.Error("a value that was found shares memory with another one")
		}
		checkGraph(t, "what was handed in", g, want)
		scribbleThing(g.V[i])
		checkThing(t, "found in what is written over", other, want.V[i])
		if !equal(w, want.V[i].Props[0].V) {
			t.Error("a value that was found shares memory with what was handed in")
		}
		g = roomy()
	}
}
