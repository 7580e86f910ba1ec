package value_test

import (
	"slices"
	"testing"

	"wayfarer/api"
	"wayfarer/value"
)

// checkRises: each stands ahead of all behind it, and is the same as itself.
func checkRises(t *testing.T, l []api.Value) {
	t.Helper()
	for i, a := range l {
		for k, b := range l {
			want := 0
			if i < k {
				want = -1
			} else if i > k {
				want = 1
			}
			if c := value.Cmp(a, b); c != want {
				t.Errorf("Cmp(%s, %s) = %d; want %d", show(a), show(b), c, want)
			}
			if c := value.Cmp(value.Copy(a), b); c != want {
				t.Errorf("Cmp of a copy of %s and %s is %d; want %d", show(a), show(b), c, want)
			}
			if value.Same(a, b) != (i == k) {
				t.Errorf("Same(%s, %s) = %v", show(a), show(b), i != k)
			}
		}
	}
}

func TestCmp(t *testing.T) {
	checkRises(t, rising())
}

func TestCmpOfWhatIsNoValue(t *testing.T) {
	checkRises(t, odd())
}

// Each field is asked only where all ahead of it are the same.
func TestCmpGoesFieldByField(t *testing.T) {
	few, many := vals(num(1)), vals(num(2))
	for _, x := range []struct{ a, b api.Value }{
		{api.Value{Kind: 1, N: 9, S: "z", L: many, M: many}, api.Value{Kind: 2, N: 0, S: "a", L: few, M: few}},
		{api.Value{Kind: 1, N: 1, S: "z", L: many, M: many}, api.Value{Kind: 1, N: 2, S: "a", L: few, M: few}},
		{api.Value{Kind: 1, N: 1, S: "a", L: many, M: many}, api.Value{Kind: 1, N: 1, S: "b", L: few, M: few}},
		{api.Value{Kind: 1, N: 1, S: "a", L: few, M: many}, api.Value{Kind: 1, N: 1, S: "a", L: many, M: few}},
		{api.Value{Kind: 1, N: 1, S: "a", L: few, M: few}, api.Value{Kind: 1, N: 1, S: "a", L: few, M: many}},
	} {
		checkRises(t, vals(x.a, x.b))
		checkRises(t, vals(list(x.a), list(x.b)))
		checkRises(t, vals(list(num(0), x.a, num(9)), list(num(0), x.b, num(1))))
		checkRises(t, vals(api.Value{M: vals(x.a, num(9))}, api.Value{M: vals(x.b, num(1))}))
	}
}

func TestOneOrder(t *testing.T) {
	all := slices.Concat(rising(), odd(), far())
	c := make([][]int, len(all))
	for i, a := range all {
		for _, b := range all {
			c[i] = append(c[i], value.Cmp(a, b))
		}
		if c[i][i] != 0 || !value.Same(a, value.Copy(a)) {
			t.Error(i, "is not the same as itself")
		}
	}
	for i := range all {
		for k := range all {
			if c[i][k] != -c[k][i] {
				t.Error(i, k, "stand in two ways:", c[i][k], c[k][i])
			}
			for m := range all {
				if c[i][k] <= 0 && c[k][m] <= 0 && c[i][m] > 0 {
					t.Error(i, k, m, "go round")
				}
				if c[i][k] == 0 && c[i][m] != c[k][m] {
					t.Error(i, k, "are the same, and yet not alike for", m)
				}
			}
		}
	}
}

func TestNilAndEmptyAreTheSame(t *testing.T) {
	none := []api.Value{}
	for _, kind := range []int{0, api.Bool, api.Int, api.List, api.Map, api.Path} {
		a, b := api.Value{Kind: kind}, api.Value{Kind: kind, L: none, M: none}
		if value.Cmp(a, b) != 0 || value.Cmp(b, a) != 0 || !value.Same(a, b) || value.Depth(b) != 1 || value.Check(a) != value.Check(b) {
			t.Error(kind)
		}
	}
}

func TestCmpEndsBelowMaxDepth(t *testing.T) {
	here := func(v api.Value) api.Value { return within(v, api.MaxDepth-1) }
	below := func(v api.Value) api.Value { return within(v, api.MaxDepth) }
	full := func(v api.Value) api.Value { return api.Value{Kind: 5, N: 1, S: "s", L: vals(v), M: vals(v)} }

	// At MaxDepth all is looked at: the items by Kind, N and S.
	checkRises(t, vals(here(list()), here(list(num(1))), here(list(num(2))), here(list(word("a"))), here(list(word("b"))), here(path())))
	checkRises(t, vals(here(dict(nil, vals(num(1)))), here(dict(nil, vals(num(2)))), here(dict(vals(num(1)), nil))))
	// One below it Kind, N and S are.
	checkRises(t, vals(below(num(1)), below(num(2)), below(word("a")), below(word("b")), below(list()), below(path())))
	// L and M are not.
	for _, x := range []struct{ a, b api.Value }{
		{full(num(1)), full(num(2))},
		{full(num(1)), api.Value{Kind: 5, N: 1, S: "s"}},
		{list(), list(num(1))},
		{list(num(1)), list(num(2))},
		{dict(nil, vals(num(1))), dict(nil, vals(num(2)))},
		{dict(vals(num(1)), nil), dict(nil, vals(num(2), num(3)))},
	} {
		if value.Cmp(below(x.a), below(x.b)) != 0 || value.Cmp(below(x.b), below(x.a)) != 0 || !value.Same(below(x.a), below(x.b)) {
			t.Errorf("below MaxDepth %v and %v are not the same", x.a, x.b)
		}
		if value.Same(here(x.a), here(x.b)) {
			t.Errorf("at MaxDepth %v and %v are the same", x.a, x.b)
		}
	}
	// What follows is still looked at.
	checkRises(t, vals(list(below(list(num(9))), num(1)), list(below(list(num(1))), num(2))))
}

func TestCmpOfWhatHasNoEnd(t *testing.T) {
	for _, kind := range []int{0, api.Int, api.List, api.Map, api.Path} {
		a, b := endless(kind, 1), endless(kind, 1)
		if !value.Same(a, b) || value.Cmp(b, a) != 0 {
			t.Error("not the same:", kind)
		}
		more := api.Value{Kind: kind, L: append(slices.Clone(a.L), num(0)), M: a.M}
		if value.Cmp(a, more) != -1 || value.Cmp(more, a) != 1 {
			t.Error("a beginning does not stand ahead:", kind)
		}
	}
	checkRises(t, vals(endless(api.List, 1), endless(api.Map, 1), endless(api.Path, 1)))
}
