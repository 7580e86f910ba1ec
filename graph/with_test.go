package graph_test

import (
	"slices"
	"testing"

	"wayfarer/api"
	"wayfarer/graph"
)

func checkWith(t *testing.T, x api.Thing, key string, v api.Value, want api.Thing) {
	t.Helper()
	got, e := graph.With(x, key, v)
	if e != api.OK {
		t.Errorf("With %.60q of %s tells %d", key, show(x), e)
	}
	checkThing(t, "With "+key, got, want)
}

func checkRefused(t *testing.T, x api.Thing, key string, v api.Value, want api.Errno) {
	t.Helper()
	got, e := graph.With(x, key, v)
	if e != want {
		t.Errorf("With %.60q %s of %s tells %d; want %d", key, showValue(v), show(x), e, want)
	}
	if !alike(got, api.Thing{}) || got.Props != nil {
		t.Errorf("there is a thing beside an error: %s", show(got))
	}
}

func TestWith(t *testing.T) {
	one, two, three := num(1), num(2), num(3)
	x := edge(5, "knows", 1, 2, prop("b", one), prop("d", two))
	for _, c := range []struct {
		key  string
		want []api.Prop
	}{
		{"a", props(prop("a", three), prop("b", one), prop("d", two))},
		{"b", props(prop("b", three), prop("d", two))},
		{"c", props(prop("b", one), prop("c", three), prop("d", two))},
		{"d", props(prop("b", one), prop("d", three))},
		{"e", props(prop("b", one), prop("d", two), prop("e", three))},
		// Byte by byte.
		{"Z", props(prop("Z", three), prop("b", one), prop("d", two))},
		{"_", props(prop("_", three), prop("b", one), prop("d", two))},
		{"ba", props(prop("b", one), prop("ba", three), prop("d", two))},
		{"b0", props(prop("b", one), prop("b0", three), prop("d", two))},
	} {
		checkWith(t, x, c.key, three, edge(5, "knows", 1, 2, c.want...))
	}
	checkWith(t, vertex(1, "a"), "k", one, vertex(1, "a", prop("k", one)))
	checkWith(t, api.Thing{Props: []api.Prop{}}, "k", one, api.Thing{Props: props(prop("k", one))})
}

// The chapter's example.
func TestWithAge(t *testing.T) {
	x := vertex(1, "person", prop("age", num(3)))
	y, e := graph.With(x, "age", num(4))
	if e != api.OK {
		t.Error(e)
	}
	checkProp(t, y, "age", num(4), true)
	checkProp(t, x, "age", num(3), true)
}

func TestWithAnyNameAndValue(t *testing.T) {
	for _, key := range names() {
		for _, v := range plain() {
			checkWith(t, vertex(1, "x"), key, v, vertex(1, "x", prop(key, v)))
			checkWith(t, vertex(1, "x", prop(key, num(5))), key, v, vertex(1, "x", prop(key, v)))
		}
	}
}

func TestWithWhatMayNotBe(t *testing.T) {
	full := vertex(1, "a", keyed(api.MaxProps)...)
	for _, x := range []api.Thing{{}, fresh().V[0], fresh().E[3], full} {
		for _, key := range unnamed() {
			checkRefused(t, x, key, num(1), api.ErrArg)
			checkRefused(t, x, key, api.Value{}, api.ErrArg)
		}
		for _, v := range unplain() {
			// With full this is told ahead of ErrLong, whether there is such a key
			// or not.
			for _, key := range []string{"a", "age", "k05", "zzz"} {
				checkRefused(t, x, key, v, api.ErrArg)
			}
		}
	}
	// Even a key that is there is refused, if it is no name.
	checkRefused(t, vertex(1, "a", prop("", num(1)), prop("2x", num(1))), "2x", num(1), api.ErrArg)
	checkRefused(t, vertex(1, "a", prop("", num(1)), prop("2x", num(1))), "", num(1), api.ErrArg)
}

func TestWithManyProperties(t *testing.T) {
	full := keyed(api.MaxProps)
	for i, p := range full {
		less := slices.Delete(slices.Clone(full), i, i+1)
		checkWith(t, vertex(1, "a", less...), p.Key, p.V, vertex(1, "a", full...))
		set := slices.Clone(full)
		set[i].V = word("anew")
		checkWith(t, vertex(1, "a", full...), p.Key, word("anew"), vertex(1, "a", set...))
	}
	for _, key := range []string{"a", "k", "k005", "k00_", "k30", "z"} {
		checkRefused(t, vertex(1, "a", full...), key, num(1), api.ErrLong)
		checkRefused(t, edge(1, "a", 1, 2, full...), key, num(1), api.ErrLong)
	}
}

// A thing is taken as it is: with more than there may be, one can be set, and
// none be laid in.
func TestWithMoreThanMayBe(t *testing.T) {
	over := keyed(api.MaxProps + 2)
	checkRefused(t, vertex(1, "a", over...), "z", num(1), api.ErrLong)
	last := len(over) - 1
	set := slices.Clone(over)
	set[last].V = word("anew")
	checkWith(t, vertex(1, "a", over...), over[last].Key, word("anew"), vertex(1, "a", set...))
	// Keys that are twice there count as often.
	same := vertex(1, "a", slices.Repeat(props(prop("b", num(1))), api.MaxProps)...)
	checkRefused(t, same, "a", num(1), api.ErrLong)
	want := cloneThing(same)
	want.Props[0].V = num(2)
	checkWith(t, same, "b", num(2), want)
	same.Props = same.Props[1:]
	checkWith(t, same, "a", num(2), vertex(1, "a", append(props(prop("a", num(2))), same.Props...)...))
}

func TestWithOfWhatIsNoThing(t *testing.T) {
	x := edge(-4, "no name", -1, -2, prop("z", dict(num(1), num(2))), prop("", path(num(3))), prop("a", api.Value{Kind: 9, S: "x"}))
	checkWith(t, x, "z", num(1), edge(-4, "no name", -1, -2, prop("z", num(1)), x.Props[1], x.Props[2]))
	checkWith(t, x, "m", num(1), edge(-4, "no name", -1, -2, prop("m", num(1)), x.Props[0], x.Props[1], x.Props[2]))
	checkWith(t, x, "zz", num(1), edge(-4, "no name", -1, -2, x.Props[0], x.Props[1], x.Props[2], prop("zz", num(1))))
}

// set is With in the plainest way.
func set(l []api.Prop, key string, v api.Value) []api.Prop {
	l = slices.Clone(l)
	for i := range l {
		if l[i].Key == key {
			l[i].V = v
			return l
		}
	}
	for i := range l {
		if l[i].Key > key {
			return slices.Insert(l, i, prop(key, v))
		}
	}
	return append(l, prop(key, v))
}

// smallRows: all of at most four properties with these keys, rising or not.
func smallRows() [][]api.Prop {
	all := [][]api.Prop{nil}
	longest := all
	for n := range 4 {
		var longer [][]api.Prop
		for _, l := range longest {
			for _, key := range []string{"b", "c", "d"} {
				longer = append(longer, append(slices.Clone(l), prop(key, num(n))))
			}
		}
		all, longest = append(all, longer...), longer
	}
	return all
}

// What was set is found, and nothing else has changed.
func TestWhatWasSetIsFound(t *testing.T) {
	keys := []string{"_", "a", "b", "bb", "c", "d", "dd", "e"}
	for _, l := range smallRows() {
		x := edge(3, "a", 1, 2, l...)
		for _, key := range keys {
			v := list(num(7), word("x"))
			checkWith(t, x, key, v, edge(3, "a", 1, 2, set(l, key, v)...))
			y, _ := graph.With(x, key, v)
			checkProp(t, y, key, v, true)
			for _, other := range keys {
				if other != key {
					was, ok := graph.Prop(x, other)
					checkProp(t, y, other, was, ok)
				}
			}
			good := api.Graph{V: things(vertex(1, "a"), vertex(2, "a")), E: things(x)}
			if graph.Check(good) == api.OK {
				good.E[0] = y
				checkCheck(t, "a graph in which something was set", good, api.OK)
			}
		}
	}
}

// Set twice is as set once; one behind the other hangs on no order.
func TestWithTwice(t *testing.T) {
	for _, x := range slices.Concat(fresh().V, fresh().E) {
		a, _ := graph.With(x, "other", num(1))
		a, _ = graph.With(a, "age", list(num(2)))
		b, _ := graph.With(x, "age", num(0))
		b, _ = graph.With(b, "age", list(num(2)))
		b, _ = graph.With(b, "other", num(1))
		checkThing(t, "the other way round", a, b)
	}
}

func TestWithIsItsOwners(t *testing.T) {
	for _, key := range []string{"A", "a", "aa", "b", "c"} {
		x, v := roomy().E[0], list(row(2)...)
		was := cloneThing(x)
		wantProps := set(was.Props, key, list(numbers(2)...))
		want := edge(was.ID, was.Label, was.Out, was.In, wantProps...)
		got, _ := graph.With(x, key, v)
		other, _ := graph.With(x, key, v)
		checkThing(t, "With", got, want)
		scribbleThing(got)
		checkThing(t, "what was handed in", x, was)
		checkThing(t, "another answer", other, want)
		if p := x.Props[:3][2]; p.Key != "c" || p.V.N != 9 {
			t.Error("the room behind properties was written over")
		}
		if !equal(v, list(numbers(2)...)) || v.L[:3][2].N != 99 {
			t.Error("the value that was handed in was changed")
		}
		scribbleThing(x)
		scribble(v, 1)
		checkThing(t, "an answer of what is written over", other, want)
		// No two rows of one answer share any.
		for i := range want.Props {
			got, _ = graph.With(roomy().E[0], key, list(numbers(2)...))
			scribble(got.Props[i].V, 1)
			for j := range want.Props {
				if i != j && !equal(got.Props[j].V, want.Props[j].V) {
					t.Error("two properties share a row")
				}
			}
		}
	}
}

// A refusal leaves everything as it was, too.
func TestRefusalsChangeNothing(t *testing.T) {
	for _, x := range []api.Thing{roomy().V[0], vertex(1, "a", keyed(api.MaxProps)...)} {
		was := cloneThing(x)
		graph.With(x, "2x", num(1))
		graph.With(x, "z", list(list()))
		graph.With(x, "z", num(1))
		checkThing(t, "what was handed in", x, was)
	}
}
