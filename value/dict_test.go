package value_test

import (
	"reflect"
	"slices"
	"testing"

	"wayfarer/api"
	"wayfarer/value"
)

func checkDict(t *testing.T, want api.Value, l ...api.Value) {
	t.Helper()
	if m, e := value.Dict(l...); e != api.OK || !reflect.DeepEqual(m, want) || value.Check(m) != api.OK {
		t.Errorf("Dict of %d = %s, %d; want %s", len(l), show(m), e, show(want))
	}
}

func checkNoDict(t *testing.T, l ...api.Value) {
	t.Helper()
	if m, e := value.Dict(l...); e != api.ErrArg || !reflect.DeepEqual(m, api.Value{}) {
		t.Errorf("Dict of %d = %s, %d; want ErrArg", len(l), show(m), e)
	}
}

func TestDict(t *testing.T) {
	a, b, c := word("a"), word("b"), word("c")
	checkDict(t, dict(nil, nil))
	checkDict(t, dict(nil, nil), []api.Value{}...)
	checkDict(t, dict(vals(a), vals(num(1))), a, num(1))
	checkDict(t, dict(vals(a, b), vals(num(2), num(3))), b, num(1), a, num(2), b, num(3))
	checkDict(t, dict(vals(a, b, c), vals(num(1), num(2), num(3))), c, num(3), a, num(1), b, num(2))
	checkDict(t, dict(vals(a), vals(num(4))), a, num(1), a, num(2), a, num(3), a, num(4))
	checkDict(t, dict(vals(a, b), vals(num(1), num(2))), a, num(5), b, num(2), a, num(1))
	// A value may be a key, of whichever kind.
	checkDict(t,
		dict(vals(value.Truth(true), num(3), a, list(num(1)), dict(vals(a), vals(b)), path()), vals(a, list(), dict(nil, nil), c, c, b)),
		path(), b, a, dict(nil, nil), dict(vals(a), vals(b)), c, num(3), list(), value.Truth(true), a, list(num(1)), c)
}

func TestDictOfAllKinds(t *testing.T) {
	keys := rising()
	for range 2 {
		var l, values []api.Value
		for i, key := range keys {
			l = append(l, key, num(-i))
		}
		for _, key := range rising() {
			i := slices.IndexFunc(keys, func(k api.Value) bool { return value.Same(k, key) })
			values = append(values, num(-i))
		}
		checkDict(t, dict(rising(), values), l...)
		slices.Reverse(keys)
	}
}

func TestDictOfWhatMayNotBe(t *testing.T) {
	a, b := word("a"), word("b")
	checkNoDict(t, a)
	checkNoDict(t, a, num(1), b)
	checkNoDict(t, api.Value{})
	for _, v := range odd() {
		checkNoDict(t, v, num(1))
		checkNoDict(t, a, v)
		checkNoDict(t, a, num(1), b, v)
		checkNoDict(t, a, num(1), v, num(1), b, num(2))
		checkNoDict(t, v, num(1), v, num(1))
		checkNoDict(t, a, num(1), a, list(v))
	}
	checkNoDict(t, a, word(letters(api.MaxText+1)))
	checkNoDict(t, word(letters(api.MaxText+1)), a)
	checkDict(t, dict(vals(word(letters(api.MaxText))), vals(a)), word(letters(api.MaxText)), a)
}

// All that comes of it is a value then: a wrong one that another one took the
// place of is not in it any more.
func TestDictHasLastValuesAlone(t *testing.T) {
	a := word("a")
	checkDict(t, dict(vals(a), vals(num(1))), a, api.Value{Kind: 9}, a, num(1))
	checkNoDict(t, a, num(1), a, api.Value{Kind: 9})
}

func TestDictDepth(t *testing.T) {
	deep := within(num(1), api.MaxDepth-2)
	checkDict(t, dict(vals(num(1)), vals(deep)), num(1), deep)
	checkDict(t, dict(vals(deep), vals(num(1))), deep, num(1))
	checkNoDict(t, num(1), list(deep))
	checkNoDict(t, list(deep), num(1))
	for _, v := range far()[1:] {
		checkNoDict(t, num(1), v)
		checkNoDict(t, v, num(1))
	}
}

func TestDictItems(t *testing.T) {
	var l []api.Value
	for i := range api.MaxItems {
		l = append(l, num(api.MaxItems-1-i), word("x"))
	}
	want := dict(numbers(api.MaxItems), slices.Repeat(vals(word("x")), api.MaxItems))
	checkDict(t, want, l...)
	checkNoDict(t, slices.Concat(l, vals(num(api.MaxItems), word("x")))...)
	// Keys that come twice are no more than one.
	checkDict(t, want, slices.Concat(l, l, l)...)
	want.M[7] = word("y")
	checkDict(t, want, slices.Concat(l, vals(num(7), word("y")))...)
}

func TestDictIsItsOwners(t *testing.T) {
	fresh := func() []api.Value {
		return vals(word("b"), list(list(num(1)), num(2)), list(num(3)), dict(vals(num(4)), vals(list(num(5)))), word("a"), num(6))
	}
	want := dict(
		vals(word("a"), word("b"), list(num(3))),
		vals(num(6), list(list(num(1)), num(2)), dict(vals(num(4)), vals(list(num(5))))))
	l := fresh()
	m, e := value.Dict(l...)
	if e != api.OK || !reflect.DeepEqual(l, fresh()) {
		t.Errorf("the row was changed to %v, %d", l, e)
	}
	other, _ := value.Dict(l...)
	scribble(m, 1)
	if !reflect.DeepEqual(l, fresh()) {
		t.Errorf("the map shares memory with the row: %v", l)
	}
	checkIs(t, other, want)
	scribble(list(l...), 1)
	checkIs(t, other, want)
	// Keys and values share none, either.
	one := list(num(1))
	m, _ = value.Dict(one, one, num(0), one)
	scribble(m.M[0], 1)
	checkIs(t, m.M[1], list(num(1)))
	scribble(api.Value{L: m.M}, 1)
	checkIs(t, m.L[1], list(num(1)))
}
