package bags_test

import (
	"slices"
	"testing"

	"wayfarer/api"
	"wayfarer/bags"
)

func checkExpand(t *testing.T, l []api.Many, most int, want ...api.Value) {
	t.Helper()
	got, e := bags.Expand(l, most)
	if e != api.OK {
		t.Errorf("Expand of %s, most %d, tells %d", show(l), most, e)
	}
	checkValues(t, "Expand of "+show(l), got, want)
}

func checkTooLong(t *testing.T, l []api.Many, most int) {
	t.Helper()
	if v, e := bags.Expand(l, most); e != api.ErrLong || v != nil {
		t.Errorf("Expand of %s, most %d: %d values, %d", show(l), most, len(v), e)
	}
}

func TestExpand(t *testing.T) {
	a, b := num(7), num(3)
	l := bag(of(2, a), of(1, b), of(1, a))
	checkExpand(t, l, 4, a, a, b, a)
	checkExpand(t, l, 5, a, a, b, a)
	checkExpand(t, l, api.MaxInt, a, a, b, a)
	checkTooLong(t, l, 3)
	checkTooLong(t, l, 1)
	checkTooLong(t, l, 0)
	checkExpand(t, bag(of(1, a)), 1, a)
	checkTooLong(t, bag(of(1, a)), 0)
	checkExpand(t, bag(of(3, a)), 3, a, a, a)
	checkTooLong(t, bag(of(3, a)), 2)
}

func TestExpandOfNone(t *testing.T) {
	for _, none := range [][]api.Many{nil, {}} {
		checkExpand(t, none, 0)
		checkExpand(t, none, 1)
		checkExpand(t, none, api.MaxInt)
		checkTooLong(t, none, -1)
		checkTooLong(t, none, api.MinInt)
	}
}

func TestExpandBelowNought(t *testing.T) {
	for _, most := range []int{-1, -2, -api.MaxInt, api.MinInt} {
		checkTooLong(t, bag(of(1, num(1))), most)
		checkTooLong(t, bag(of(api.MaxInt, num(1)), of(2, num(1))), most)
	}
}

// Great numbers are refused, not laid out.
func TestExpandOfFarTooMany(t *testing.T) {
	a, b := num(7), num(3)
	for _, l := range [][]api.Many{
		bag(of(api.MaxInt, a)),
		bag(of(1, b), of(1<<40, a)),
		bag(of(api.MaxInt-1, a), of(1, b)),
	} {
		for _, most := range []int{0, 1, 1000, 1 << 30} {
			checkTooLong(t, l, most)
		}
	}
	// What no number has room for is more than the greatest one.
	for _, l := range [][]api.Many{
		bag(of(api.MaxInt, a), of(1, a)),
		bag(of(api.MaxInt, a), of(1, b)),
		bag(of(api.MaxInt, a), of(api.MaxInt, b), of(2, a)),
		slices.Repeat(bag(of(1<<61, a)), 8),
	} {
		for _, most := range []int{0, 4, api.MaxInt - 1, api.MaxInt} {
			checkTooLong(t, l, most)
		}
	}
}

func TestExpandOfAllKinds(t *testing.T) {
	var l []api.Many
	var want []api.Value
	for i, v := range turned(rising()) {
		n := 1 + i%4
		l = append(l, of(n, v))
		want = append(want, slices.Repeat(vals(v), n)...)
	}
	checkExpand(t, l, len(want), want...)
	checkTooLong(t, l, len(want)-1)
	checkExpand(t, bag(of(100000, word("x"))), 100000, slices.Repeat(vals(word("x")), 100000)...)
}
