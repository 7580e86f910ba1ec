package graph_test

import (
	"slices"
	"testing"

	"wayfarer/api"
	"wayfarer/graph"
)

// anyThings: what may be a thing, and what may not, in all fields.
func anyThings() []api.Thing {
	l := slices.Concat(fresh().V, fresh().E)
	numbers := []int{api.MinInt, -1, 0, 1, api.MaxInt}
	for _, n := range numbers {
		for _, m := range numbers {
			l = append(l, edge(n, "a", m, n), edge(m, "", n, m))
		}
	}
	for _, v := range slices.Concat(plain(), unplain()) {
		l = append(l, vertex(1, "a", prop("k", v)), edge(1, "a", 1, 1, prop("k", v), prop("a", v), prop("k", v)))
	}
	for _, s := range slices.Concat(names(), unnamed()) {
		l = append(l, vertex(2, s, prop(s, num(1)), prop("m", num(2)), prop(s, num(3))))
	}
	return append(l, vertex(3, "a", keyed(api.MaxProps)...), vertex(4, "a", keyed(5000)...))
}

// Whatever comes in: each call ends, tells one of its errors, and nothing
// beside.
func TestAnyInput(t *testing.T) {
	all := anyThings()
	for _, x := range all {
		for _, y := range []api.Thing{{}, vertex(1, "a"), x, fresh().V[2], edge(1, "a", 1, 1)} {
			g := api.Graph{V: things(y), E: things(x, y)}
			if e := graph.Check(g); e != api.OK && e != api.ErrGraph {
				t.Error("Check", e)
			}
			if c := graph.Copy(g); len(c.V) != 1 || len(c.E) != 2 {
				t.Error("Copy", showAll(c.V), showAll(c.E))
			}
		}
		for _, key := range []string{"", "a", "k", "k05", "m", "zzz", "é"} {
			checkAny(t, x, key, num(1))
		}
	}
	graph.Check(api.Graph{V: all, E: all})
	if c := graph.Copy(api.Graph{V: all, E: all}); len(c.V) != len(all) || len(c.E) != len(all) {
		t.Error("Copy of all")
	}
	for _, id := range []int{api.MinInt, -1, 0, 1, 2, 3, 9, api.MaxInt} {
		if x, ok := graph.At(all, id); ok && x.ID != id || !ok && !alike(x, api.Thing{}) {
			t.Error("At", id, show(x), ok)
		}
	}
	for _, v := range slices.Concat(plain(), unplain()) {
		for _, key := range []string{"", "k", letters(5000)} {
			checkAny(t, all[0], key, v)
		}
	}
}

func checkAny(t *testing.T, x api.Thing, key string, v api.Value) {
	t.Helper()
	if v, ok := graph.Prop(x, key); !ok && !equal(v, api.Value{}) {
		t.Errorf("Prop %.60q of %s: %s, and false", key, show(x), showValue(v))
	}
	y, e := graph.With(x, key, v)
	switch e {
	case api.OK:
		if len(y.Props) != len(x.Props) && len(y.Props) != len(x.Props)+1 || y.ID != x.ID {
			t.Errorf("With %.60q of %s: %s", key, show(x), show(y))
		}
	case api.ErrArg, api.ErrLong:
		if !alike(y, api.Thing{}) {
			t.Errorf("With %.60q of %s: %s beside %d", key, show(x), show(y), e)
		}
	default:
		t.Errorf("With %.60q of %s tells %d", key, show(x), e)
	}
}

// What is far too much is refused on the spot, and not walked through.
func TestCheckOfFarTooMuch(t *testing.T) {
	wide := vertex(0, "a", prop("k", endless(api.List, api.MaxItems)))
	checkCheck(t, "a value that is wide and endless", api.Graph{V: things(wide)}, api.ErrGraph)
	checkRefused(t, wide, "k", endless(api.List, api.MaxItems), api.ErrArg)
	checkWith(t, wide, "k", num(1), vertex(0, "a", prop("k", num(1))))
	checkCheck(t, "very many vertices", api.Graph{V: make([]api.Thing, 1<<20)}, api.ErrGraph)
	checkCheck(t, "very many edges", api.Graph{V: vertices(1), E: make([]api.Thing, 1<<20)}, api.ErrGraph)
}
