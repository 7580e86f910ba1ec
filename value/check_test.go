package value_test

import (
	"slices"
	"testing"

	"wayfarer/api"
	"wayfarer/value"
)

func checkCheck(t *testing.T, v api.Value, want api.Errno) {
	t.Helper()
	if e := value.Check(v); e != want {
		t.Errorf("Check(%s) = %d; want %d", show(v), e, want)
	}
}

func TestCheck(t *testing.T) {
	for _, v := range rising() {
		checkCheck(t, v, api.OK)
		checkCheck(t, list(v, v), api.OK)
		checkCheck(t, path(num(0), v), api.OK)
		checkCheck(t, dict(vals(v), vals(v)), api.OK)
	}
	for _, v := range odd() {
		checkCheck(t, v, api.ErrArg)
		checkCheck(t, list(v), api.ErrArg)
		checkCheck(t, list(num(1), v, num(1)), api.ErrArg)
		checkCheck(t, path(num(1), v), api.ErrArg)
		checkCheck(t, dict(vals(v), vals(num(1))), api.ErrArg)
		checkCheck(t, dict(vals(num(1)), vals(v)), api.ErrArg)
		checkCheck(t, dict(vals(num(1), num(2)), vals(num(1), list(v))), api.ErrArg)
	}
}

func TestCheckNumbers(t *testing.T) {
	for _, x := range []struct {
		kind int
		good []int
		bad  []int
	}{
		{api.Bool, []int{0, 1}, []int{api.MinInt, -1, 2, api.MaxInt}},
		{api.Int, []int{api.MinInt, -1, 0, 1, api.MaxInt}, nil},
		{api.Text, []int{0}, []int{api.MinInt, -1, 1, api.MaxInt}},
		{api.Vertex, []int{0, 1, api.MaxInt}, []int{-1, api.MinInt}},
		{api.Edge, []int{0, 1, api.MaxInt}, []int{-1, api.MinInt}},
		{api.List, []int{0}, []int{-1, 1, api.MaxInt}},
		{api.Map, []int{0}, []int{-1, 1, api.MaxInt}},
		{api.Path, []int{0}, []int{-1, 1, api.MaxInt}},
	} {
		for _, n := range x.good {
			checkCheck(t, api.Value{Kind: x.kind, N: n}, api.OK)
		}
		for _, n := range x.bad {
			checkCheck(t, api.Value{Kind: x.kind, N: n}, api.ErrArg)
		}
	}
	for _, kind := range []int{api.MinInt, -1, 0, 9, 10, api.MaxInt} {
		checkCheck(t, api.Value{Kind: kind}, api.ErrArg)
	}
}

func TestCheckFieldsThatAKindDoesNotHave(t *testing.T) {
	none, one := []api.Value{}, vals(num(1))
	for kind := api.Bool; kind <= api.Path; kind++ {
		hasText := kind == api.Text
		hasItems := kind == api.List || kind == api.Path
		for _, x := range []struct {
			v    api.Value
			good bool
		}{
			{api.Value{Kind: kind}, true},
			{api.Value{Kind: kind, L: none, M: none}, true},
			{api.Value{Kind: kind, S: "x"}, hasText},
			{api.Value{Kind: kind, L: one}, hasItems},
			{api.Value{Kind: kind, M: one}, false},
			{api.Value{Kind: kind, L: one, M: one}, kind == api.Map},
			{api.Value{Kind: kind, S: "x", L: one}, false},
			{api.Value{Kind: kind, S: "x", L: one, M: one}, false},
		} {
			want := api.ErrArg
			if x.good {
				want = api.OK
			}
			checkCheck(t, x.v, want)
		}
	}
}

func TestCheckLimits(t *testing.T) {
	checkCheck(t, word(letters(api.MaxText)), api.OK)
	checkCheck(t, word(letters(api.MaxText+1)), api.ErrArg)
	// Bytes are counted, not runes.
	checkCheck(t, word(letters(api.MaxText-2)+"é"), api.OK)
	checkCheck(t, word(letters(api.MaxText-1)+"é"), api.ErrArg)
	most, more := numbers(api.MaxItems), numbers(api.MaxItems+1)
	checkCheck(t, list(most...), api.OK)
	checkCheck(t, list(more...), api.ErrArg)
	checkCheck(t, path(most...), api.OK)
	checkCheck(t, path(more...), api.ErrArg)
	checkCheck(t, dict(most, most), api.OK)
	checkCheck(t, dict(more, more), api.ErrArg)
	checkCheck(t, dict(most, more), api.ErrArg)
	checkCheck(t, dict(more, most), api.ErrArg)
	checkCheck(t, list(list(more...)), api.ErrArg)
	checkCheck(t, list(list(most...), list(most...)), api.OK)
}

func TestCheckKeys(t *testing.T) {
	two := vals(num(0), num(0))
	checkCheck(t, dict(vals(num(1), num(2)), two), api.OK)
	checkCheck(t, dict(vals(num(2), num(1)), two), api.ErrArg)
	checkCheck(t, dict(vals(num(1), num(1)), two), api.ErrArg)
	checkCheck(t, dict(vals(num(1), num(2)), vals(num(0))), api.ErrArg)
	checkCheck(t, dict(vals(num(1)), two), api.ErrArg)
	checkCheck(t, dict(vals(word("a"), num(1)), two), api.ErrArg)
	keys := rising()
	checkCheck(t, dict(keys, keys), api.OK)
	for i := range len(keys) - 1 {
		turned := slices.Clone(keys)
		turned[i], turned[i+1] = keys[i+1], keys[i]
		checkCheck(t, dict(turned, keys), api.ErrArg)
		turned[i] = keys[i]
		checkCheck(t, dict(turned, keys), api.ErrArg)
	}
	// The items of lists and paths, and a map's values, need not rise.
	slices.Reverse(keys)
	checkCheck(t, list(keys...), api.OK)
	checkCheck(t, path(keys...), api.OK)
	checkCheck(t, dict(rising(), keys), api.OK)
	checkCheck(t, list(dict(vals(num(2), num(1)), two)), api.ErrArg)
}

func TestCheckDepth(t *testing.T) {
	around := []func(api.Value) api.Value{
		func(v api.Value) api.Value { return list(v) },
		func(v api.Value) api.Value { return list(num(0), v, num(0)) },
		func(v api.Value) api.Value { return path(v) },
		func(v api.Value) api.Value { return dict(vals(v), vals(num(0))) },
		func(v api.Value) api.Value { return dict(vals(num(0)), vals(v)) },
	}
	for _, f := range around {
		for _, last := range []api.Value{num(1), word("a"), list(), dict(nil, nil), path()} {
			v := last
			for depth := 1; depth <= api.MaxDepth+3; depth++ {
				want := api.OK
				if depth > api.MaxDepth {
					want = api.ErrArg
				}
				checkCheck(t, v, want)
				if d := value.Depth(v); d != min(depth, api.MaxDepth+1) {
					t.Errorf("Depth(%s) = %d; want %d", show(v), d, depth)
				}
				v = f(v)
			}
		}
	}
	for _, v := range far()[1:] {
		checkCheck(t, v, api.ErrArg)
	}
	// Far too many ways down: each is too deep, so the first one tells.
	checkCheck(t, endless(api.List, api.MaxItems), api.ErrArg)
}

func TestDepth(t *testing.T) {
	for _, x := range []struct {
		v    api.Value
		want int
	}{
		{api.Value{}, 1},
		{num(7), 1},
		{word(letters(api.MaxText + 1)), 1},
		{list(), 1},
		{path(), 1},
		{dict(nil, nil), 1},
		{list(num(1)), 2},
		{list(list()), 2},
		{list(num(1), list(list(num(1))), list(num(1))), 4},
		{list(list(list(num(1))), num(1)), 4},
		{dict(vals(num(1)), vals(num(1))), 2},
		{dict(vals(num(1)), vals(list(num(1)))), 3},
		{dict(vals(list(path(num(1)))), vals(num(1))), 4},
		{dict(vals(num(1), list(num(1))), vals(list(list(num(1))), num(1))), 4},
		// What is no value: all that it has counts.
		{api.Value{Kind: api.List, M: vals(num(1))}, 2},
		{api.Value{Kind: api.List, L: vals(num(1)), M: vals(list(num(1)))}, 3},
		{api.Value{Kind: api.Map, M: vals(list(num(1)))}, 3},
		{api.Value{Kind: api.Map, L: vals(list(num(1)))}, 3},
		{api.Value{Kind: api.Int, L: vals(num(1))}, 2},
		{api.Value{Kind: 9, M: vals(list())}, 2},
		{list(api.Value{Kind: 9}), 2},
		{list(numbers(api.MaxItems + 1)...), 2},
	} {
		if d := value.Depth(x.v); d != x.want {
			t.Errorf("Depth(%s) = %d; want %d", show(x.v), d, x.want)
		}
	}
}

func TestDepthHasAnEnd(t *testing.T) {
	for _, v := range []api.Value{
		within(num(1), api.MaxDepth), within(num(1), api.MaxDepth+1), within(num(1), 5000),
		dict(vals(num(1)), vals(within(num(1), api.MaxDepth+5))),
		list(num(1), within(num(1), api.MaxDepth+5), num(1)),
		endless(api.List, 1), endless(api.Map, 3), endless(0, 1),
		endless(api.List, api.MaxItems),
	} {
		if d := value.Depth(v); d != api.MaxDepth+1 {
			t.Errorf("Depth of what is too deep is %d", d)
		}
	}
	if d := value.Depth(within(num(1), api.MaxDepth-1)); d != api.MaxDepth {
		t.Error(d)
	}
}
