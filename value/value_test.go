package value_test

import (
	"reflect"
	"slices"
	"testing"

	"wayfarer/api"
	"wayfarer/value"
)

func checkIs(t *testing.T, got, want api.Value) {
	t.Helper()
	if !reflect.DeepEqual(got, want) {
		t.Errorf("got %s; want %s", show(got), show(want))
	}
}

func TestTruthNumberWord(t *testing.T) {
	checkIs(t, value.Truth(false), api.Value{Kind: api.Bool})
	checkIs(t, value.Truth(true), api.Value{Kind: api.Bool, N: 1})
	for _, n := range []int{api.MinInt, -1, 0, 1, 42, api.MaxInt} {
		checkIs(t, value.Number(n), api.Value{Kind: api.Int, N: n})
	}
	for _, s := range []string{"", "a", "a'b", "\x00\xff", "é", letters(api.MaxText), letters(api.MaxText + 1)} {
		checkIs(t, value.Word(s), api.Value{Kind: api.Text, S: s})
	}
}

func TestRow(t *testing.T) {
	checkIs(t, value.Row(), api.Value{Kind: api.List})
	checkIs(t, value.Row([]api.Value{}...), api.Value{Kind: api.List})
	checkIs(t, value.Row(num(1)), list(num(1)))
	checkIs(t, value.Row(num(2), word("a"), list(num(1)), num(2)), list(num(2), word("a"), list(num(1)), num(2)))
	// What may not be an item, or is one too many, is in that list nevertheless.
	checkIs(t, value.Row(api.Value{Kind: 9, N: 1}), list(api.Value{Kind: 9, N: 1}))
	checkIs(t, value.Row(numbers(api.MaxItems+1)...), list(numbers(api.MaxItems+1)...))
	for _, v := range slices.Concat(rising(), odd(), far()) {
		row := value.Row(v, v)
		if row.Kind != api.List || len(row.L) != 2 || !value.Same(row.L[0], v) || !value.Same(row.L[1], v) || !value.Same(row, list(v, v)) {
			t.Errorf("Row of %s twice is another one", show(v))
		}
	}
}

func TestRowIsItsOwners(t *testing.T) {
	inner := vals(num(1), list(num(2)))
	l := vals(list(inner...), num(3))
	l = append(l, num(4))[:2]
	got := value.Row(l...)
	want := list(list(num(1), list(num(2))), num(3))
	scribble(list(l...), 1)
	inner[0] = num(9)
	checkIs(t, got, want)

	l = vals(list(num(1)), list(num(1)))
	got = value.Row(l...)
	scribble(got, 1)
	checkIs(t, list(l...), list(list(num(1)), list(num(1))))

	one := list(num(1))
	got = value.Row(one, one)
	scribble(got.L[0], 1)
	checkIs(t, got.L[1], list(num(1)))
}

func TestCopy(t *testing.T) {
	for _, v := range slices.Concat(rising(), odd()) {
		checkIs(t, value.Copy(v), v)
	}
	wide := list(numbers(api.MaxItems + 1)...)
	checkIs(t, value.Copy(wide), wide)
	for _, v := range far() {
		if c := value.Copy(v); !value.Same(c, v) || value.Depth(c) != value.Depth(v) {
			t.Error("a copy of what is deep is another one")
		}
	}
	empty := value.Copy(api.Value{Kind: api.Int, N: 3, L: []api.Value{}, M: []api.Value{}})
	if !value.Same(empty, num(3)) || len(empty.L) != 0 || len(empty.M) != 0 {
		t.Error(empty)
	}
}

func TestCopyEndsBelowMaxDepth(t *testing.T) {
	checkIs(t, value.Copy(within(num(1), api.MaxDepth-1)), within(num(1), api.MaxDepth-1))
	checkIs(t, value.Copy(within(num(1), api.MaxDepth)), within(num(1), api.MaxDepth))
	// What stands one below MaxDepth is there, but has no items any more.
	checkIs(t, value.Copy(within(num(1), api.MaxDepth+1)), within(list(), api.MaxDepth))
	checkIs(t, value.Copy(within(num(1), 5000)), within(list(), api.MaxDepth))
	odd := api.Value{Kind: 9, N: 4, S: "x", L: vals(num(1)), M: vals(num(2))}
	checkIs(t, value.Copy(within(odd, api.MaxDepth-1)), within(odd, api.MaxDepth-1))
	checkIs(t, value.Copy(within(odd, api.MaxDepth)), within(api.Value{Kind: 9, N: 4, S: "x"}, api.MaxDepth))
	deep := dict(vals(num(1)), vals(within(odd, api.MaxDepth)))
	checkIs(t, value.Copy(deep), dict(vals(num(1)), vals(within(list(), api.MaxDepth-1))))
}

func TestCopyIsItsOwners(t *testing.T) {
	fresh := func() api.Value {
		inner := dict(vals(num(1), list(num(2))), vals(path(num(3)), list(list(num(4)))))
		return list(num(0), inner, path(inner))
	}
	v := fresh()
	c := value.Copy(v)
	scribble(v, 1)
	checkIs(t, c, fresh())

	v = fresh()
	c, other := value.Copy(v), value.Copy(v)
	scribble(c, 1)
	checkIs(t, v, fresh())
	checkIs(t, other, fresh())

	// One row that is there twice comes out as two.
	row := vals(num(1), num(2))
	c = value.Copy(api.Value{Kind: api.Map, L: row, M: row})
	scribble(api.Value{L: c.L}, 1)
	checkIs(t, api.Value{M: c.M}, api.Value{M: vals(num(1), num(2))})
}

func TestFind(t *testing.T) {
	m := dict(vals(num(1), word("a"), word("b"), list(num(1))), vals(word("one"), num(2), list(num(3)), num(4)))
	for i, key := range m.L {
		if v, ok := value.Find(m, key); !ok || !reflect.DeepEqual(v, m.M[i]) {
			t.Errorf("Find %s: %s, %v", show(key), show(v), ok)
		}
	}
	nothing := func(m, key api.Value) {
		t.Helper()
		if v, ok := value.Find(m, key); ok || !reflect.DeepEqual(v, api.Value{}) {
			t.Errorf("Find of %s: %s, %v", show(key), show(v), ok)
		}
	}
	for _, key := range []api.Value{{}, num(0), num(2), word(""), word("ab"), list(), list(num(1), num(1)), path(num(1)), {Kind: api.Vertex, N: 1}, {Kind: api.Int, N: 1, S: "x"}} {
		nothing(m, key)
	}
	nothing(dict(nil, nil), num(1))
	nothing(api.Value{}, api.Value{})
	for kind := -1; kind <= 9; kind++ {
		if kind != api.Map {
			nothing(api.Value{Kind: kind, L: m.L, M: m.M}, num(1))
		}
	}
}

func TestFindOfMapsThatAreNone(t *testing.T) {
	key, first, second := word("k"), num(1), num(2)
	twice := dict(vals(num(9), key, num(3), key), vals(num(0), first, num(0), second))
	if v, ok := value.Find(twice, key); !ok || !value.Same(v, first) {
		t.Error("not the first one:", v, ok)
	}
	if v, ok := value.Find(twice, num(3)); !ok || !value.Same(v, num(0)) {
		t.Error("keys that do not rise:", v, ok)
	}
	few := dict(vals(num(1), key, key), vals(num(5)))
	if v, ok := value.Find(few, num(1)); !ok || !value.Same(v, num(5)) {
		t.Error("the value that is there:", v, ok)
	}
	if v, ok := value.Find(few, key); ok || !reflect.DeepEqual(v, api.Value{}) {
		t.Error("a value that is not there:", v, ok)
	}
	if v, ok := value.Find(dict(nil, vals(num(1))), num(1)); ok || !reflect.DeepEqual(v, api.Value{}) {
		t.Error("a value without a key:", v, ok)
	}
	odd := api.Value{Kind: 9, S: "odd"}
	if v, ok := value.Find(api.Value{Kind: api.Map, N: 3, L: vals(odd), M: vals(odd)}, odd); !ok || !value.Same(v, odd) {
		t.Error("what is no value:", v, ok)
	}
}

func TestFindIsItsOwners(t *testing.T) {
	m := dict(vals(num(1)), vals(list(list(num(2)), num(3))))
	got, _ := value.Find(m, num(1))
	other, _ := value.Find(m, num(1))
	scribble(got, 1)
	checkIs(t, m, dict(vals(num(1)), vals(list(list(num(2)), num(3)))))
	scribble(m, 1)
	checkIs(t, other, list(list(num(2)), num(3)))
}

// Whatever comes in: each call ends, and leaves it as it was.
func TestAnyInput(t *testing.T) {
	all := slices.Concat(rising(), odd(), far())
	before := make([]api.Value, len(all))
	for i, v := range all {
		before[i] = value.Copy(v)
	}
	for _, a := range all {
		value.Check(a)
		value.Copy(a)
		if d := value.Depth(a); d < 1 || d > api.MaxDepth+1 {
			t.Error("depth", d)
		}
		value.Row(a, a)
		for _, b := range all {
			if c := value.Cmp(a, b); c < -1 || c > 1 || value.Same(a, b) != (c == 0) {
				t.Error("compared:", c)
			}
			value.Find(a, b)
			if m, e := value.Dict(a, b); e == api.OK && value.Check(m) != api.OK || e != api.OK && !reflect.DeepEqual(m, api.Value{}) {
				t.Errorf("Dict(%s, %s) = %s, %d", show(a), show(b), show(m), e)
			}
		}
	}
	for i, v := range all {
		if !value.Same(v, before[i]) {
			t.Error("changed:", i)
		}
	}
}
