package bags_test

import (
	"slices"
	"testing"

	"wayfarer/api"
	"wayfarer/bags"
	"wayfarer/value"
)

func TestRisingRises(t *testing.T) {
	if !slices.IsSortedFunc(rising(), value.Cmp) {
		t.Error("the values that the tests are made of do not rise")
	}
}

func TestOf(t *testing.T) {
	if l := bags.Of(); len(l) != 0 {
		t.Error(show(l))
	}
	if l := bags.Of([]api.Value{}...); len(l) != 0 {
		t.Error(show(l))
	}
	checkBag(t, "one", bags.Of(num(7)), bag(of(1, num(7))))
	// Neither put into an order, nor laid together.
	checkBag(t, "some", bags.Of(num(7), num(3), num(7), num(7)), bag(of(1, num(7)), of(1, num(3)), of(1, num(7)), of(1, num(7))))
	var want []api.Many
	for _, v := range slices.Concat(rising(), turned(rising())) {
		want = append(want, of(1, v))
	}
	checkBag(t, "all", bags.Of(slices.Concat(rising(), turned(rising()))...), want)
}

// Of asks nothing of what comes in.
func TestOfWhatIsNoValue(t *testing.T) {
	l := bags.Of(odd()...)
	if len(l) != len(odd()) {
		t.Fatal(show(l))
	}
	for i, v := range odd() {
		if l[i].N != 1 || !value.Same(l[i].V, v) {
			t.Errorf("%d: %s", i, show(l[i:i+1]))
		}
	}
	if e := bags.Check(l); e != api.ErrArg {
		t.Error(e)
	}
}

func TestCheck(t *testing.T) {
	for _, none := range [][]api.Many{nil, {}} {
		if e := bags.Check(none); e != api.OK {
			t.Error(e)
		}
	}
	var all []api.Many
	for i, v := range rising() {
		for _, n := range []int{1, 2, i + 1, api.MaxInt - 1, api.MaxInt} {
			all = append(all, of(n, v))
			if e := bags.Check(bag(of(n, v))); e != api.OK {
				t.Errorf("%d of %s: %d", n, show(bag(of(n, v))), e)
			}
		}
	}
	// That numbers have room together is not asked, nor that values rise, or
	// are there once.
	if e := bags.Check(slices.Concat(all, turned(all))); e != api.OK {
		t.Error(e)
	}
}

func TestCheckOfWhatMayNotBe(t *testing.T) {
	good := of(2, num(1))
	for i, x := range wrong() {
		for _, l := range [][]api.Many{{x}, {x, good}, {good, x}, {good, good, x, good}, {x, x}} {
			if e := bags.Check(l); e != api.ErrArg {
				t.Errorf("%d: %s: %d", i, show(l), e)
			}
		}
	}
}

func checkCount(t *testing.T, l []api.Many, want int, wantE api.Errno) {
	t.Helper()
	if n, e := bags.Count(l); n != want || e != wantE {
		t.Errorf("Count of %s = %d, %d; want %d, %d", show(l), n, e, want, wantE)
	}
}

func TestCount(t *testing.T) {
	a, b, c := num(7), num(3), word("c")
	checkCount(t, nil, 0, api.OK)
	checkCount(t, []api.Many{}, 0, api.OK)
	checkCount(t, bag(of(1, a)), 1, api.OK)
	checkCount(t, bag(of(2, a), of(1, b), of(1, a)), 4, api.OK)
	checkCount(t, bag(of(api.MaxInt, a)), api.MaxInt, api.OK)
	checkCount(t, bag(of(api.MaxInt-1, a), of(1, b)), api.MaxInt, api.OK)
	checkCount(t, bag(of(1, b), of(api.MaxInt-2, a), of(1, c)), api.MaxInt, api.OK)
	checkCount(t, bag(of(1<<62, a), of(1<<62-1, a)), api.MaxInt, api.OK)
	checkCount(t, bag(of(1<<62, a), of(1<<62, a)), 0, api.ErrRange)
	checkCount(t, bag(of(1<<62, a), of(1<<62, b)), 0, api.ErrRange)
	checkCount(t, bag(of(api.MaxInt, a), of(1, b)), 0, api.ErrRange)
	checkCount(t, bag(of(1, a), of(api.MaxInt, b)), 0, api.ErrRange)
	checkCount(t, bag(of(1, a), of(api.MaxInt-1, b), of(1, c)), 0, api.ErrRange)
	// All together would come to more than 0 again, if numbers wrapped.
	checkCount(t, bag(of(api.MaxInt, a), of(api.MaxInt, b), of(5, c)), 0, api.ErrRange)
	checkCount(t, slices.Repeat(bag(of(1<<61, a)), 8), 0, api.ErrRange)
	var all []api.Many
	for i, v := range rising() {
		all = append(all, of(i+1, v))
	}
	checkCount(t, all, len(all)*(len(all)+1)/2, api.OK)
	checkCount(t, turned(all), len(all)*(len(all)+1)/2, api.OK)
}

// What may not be is told first, even where numbers have no room ahead of it.
func TestWhatMayNotBeIsToldFirst(t *testing.T) {
	room := bag(of(api.MaxInt, num(1)), of(1, num(1)))
	for i, x := range wrong() {
		for _, l := range [][]api.Many{{x}, slices.Concat(room, bag(x)), slices.Concat(bag(x), room)} {
			checkCount(t, l, 0, api.ErrArg)
			if m, e := bags.Merge(l); e != api.ErrArg || m != nil {
				t.Errorf("%d: Merge = %s, %d", i, show(m), e)
			}
			if m, e := bags.Bulk(l); e != api.ErrArg || m != nil {
				t.Errorf("%d: Bulk = %s, %d", i, show(m), e)
			}
			for _, most := range []int{api.MinInt, -1, 0, 1, 5, api.MaxInt} {
				if v, e := bags.Expand(l, most); e != api.ErrArg || v != nil {
					t.Errorf("%d: Expand = %d values, %d", i, len(v), e)
				}
			}
			if bags.Same(l, l) || bags.Same(l, nil) || bags.Same(nil, l) {
				t.Errorf("%d: Same", i)
			}
		}
	}
}
