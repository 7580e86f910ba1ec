package bags_test

import (
	"slices"
	"testing"

	"wayfarer/api"
	"wayfarer/bags"
	"wayfarer/value"
)

func checkMerge(t *testing.T, l, want []api.Many) {
	t.Helper()
	got, e := bags.Merge(l)
	if e != api.OK {
		t.Errorf("Merge of %s tells %d", show(l), e)
	}
	checkBag(t, "Merge of "+show(l), got, want)
}

func checkBulk(t *testing.T, l, want []api.Many) {
	t.Helper()
	got, e := bags.Bulk(l)
	if e != api.OK {
		t.Errorf("Bulk of %s tells %d", show(l), e)
	}
	checkBag(t, "Bulk of "+show(l), got, want)
}

func TestTheExample(t *testing.T) {
	l := bag(of(2, num(7)), of(1, num(3)), of(1, num(7)))
	checkMerge(t, l, bag(of(1, num(3)), of(3, num(7))))
	checkBulk(t, l, bag(of(3, num(7)), of(1, num(3))))
	checkCount(t, l, 4, api.OK)
}

func TestMergeAndBulk(t *testing.T) {
	a, b, c := num(3), num(7), word("a")
	for _, none := range [][]api.Many{nil, {}} {
		checkMerge(t, none, nil)
		checkBulk(t, none, nil)
	}
	for _, x := range []struct{ l, merged, bulked []api.Many }{
		{bag(of(1, a)), bag(of(1, a)), bag(of(1, a))},
		{bag(of(5, a)), bag(of(5, a)), bag(of(5, a))},
		{bag(of(1, a), of(1, a)), bag(of(2, a)), bag(of(2, a))},
		{bag(of(1, a), of(2, b)), bag(of(1, a), of(2, b)), bag(of(1, a), of(2, b))},
		{bag(of(2, b), of(1, a)), bag(of(1, a), of(2, b)), bag(of(2, b), of(1, a))},
		{bag(of(1, c), of(2, b), of(3, a)), bag(of(3, a), of(2, b), of(1, c)), bag(of(1, c), of(2, b), of(3, a))},
		{bag(of(1, b), of(1, c), of(1, a), of(2, c), of(3, b), of(4, a), of(5, c)), bag(of(5, a), of(4, b), of(8, c)), bag(of(4, b), of(8, c), of(5, a))},
	} {
		checkMerge(t, x.l, x.merged)
		checkBulk(t, x.l, x.bulked)
	}
}

func TestMergeAndBulkOfAllKinds(t *testing.T) {
	var once, thrice []api.Many
	for i, v := range rising() {
		once = append(once, of(i+1, v))
		thrice = append(thrice, of(3*(i+1), v))
	}
	all := slices.Concat(turned(once), once, once)
	checkMerge(t, once, once)
	checkMerge(t, turned(once), once)
	checkMerge(t, all, thrice)
	checkBulk(t, once, once)
	checkBulk(t, turned(once), turned(once))
	checkBulk(t, all, turned(thrice))
}

// Rows that are nil and rows that are empty are the same, in values, too.
func TestMergeOfEmptyRows(t *testing.T) {
	none := []api.Value{}
	l := bag(of(1, list()), of(2, api.Value{Kind: api.List, L: none, M: none}), of(1, num(1)), of(1, api.Value{Kind: api.Int, N: 1, L: none}))
	checkMerge(t, l, bag(of(2, num(1)), of(3, list())))
	checkBulk(t, l, bag(of(3, list()), of(2, num(1))))
}

func TestMergeAndBulkAtTheEndOfRoom(t *testing.T) {
	a, b := num(3), num(7)
	for _, x := range []struct {
		l    []api.Many
		want []api.Many // nil: no room
	}{
		{bag(of(api.MaxInt, a)), bag(of(api.MaxInt, a))},
		{bag(of(api.MaxInt-1, a), of(1, a)), bag(of(api.MaxInt, a))},
		{bag(of(1, a), of(api.MaxInt-1, a)), bag(of(api.MaxInt, a))},
		{bag(of(1<<62, a), of(1, a), of(1<<62-2, a)), bag(of(api.MaxInt, a))},
		// It is those of one value that need room, not all together.
		{bag(of(api.MaxInt, a), of(api.MaxInt, b)), bag(of(api.MaxInt, a), of(api.MaxInt, b))},
		{bag(of(api.MaxInt-1, a), of(api.MaxInt, b), of(1, a)), bag(of(api.MaxInt, a), of(api.MaxInt, b))},
		{bag(of(api.MaxInt, a), of(1, a)), nil},
		{bag(of(1, a), of(api.MaxInt, a)), nil},
		{bag(of(1<<62, a), of(1<<62, a)), nil},
		{bag(of(api.MaxInt, a), of(1, b), of(1, a)), nil},
		{bag(of(1, b), of(api.MaxInt, a), of(api.MaxInt, a), of(5, a)), nil},
		{bag(of(api.MaxInt, a), of(1, a), of(1, b), of(2, b)), nil},
		{slices.Repeat(bag(of(1<<61, b)), 8), nil},
	} {
		if x.want != nil {
			checkMerge(t, x.l, x.want)
			checkBulk(t, x.l, x.want)
			continue
		}
		if m, e := bags.Merge(x.l); e != api.ErrRange || m != nil {
			t.Errorf("Merge of %s = %s, %d", show(x.l), show(m), e)
		}
		if m, e := bags.Bulk(x.l); e != api.ErrRange || m != nil {
			t.Errorf("Bulk of %s = %s, %d", show(x.l), show(m), e)
		}
	}
}

// inOrder: the numbers below n, in an order that goes to and fro.
func inOrder(n, step int) []int {
	l := make([]int, 0, n)
	for i := range n {
		l = append(l, i*step%n)
	}
	return l
}

// Many bulks, in many orders: none is lost, none is there twice.
func TestManyBulks(t *testing.T) {
	const n, often = 20011, 3 // a prime, so that each step meets every number
	var want []api.Many
	for i := range n {
		want = append(want, of(often*(i+1), num(i)))
	}
	for _, step := range []int{1, n - 1, 2, 7, 700, n / 2, 12345} {
		var l, first []api.Many
		for range often {
			for _, i := range inOrder(n, step) {
				l = append(l, of(i+1, num(i)))
			}
		}
		for _, m := range l[:n] {
			first = append(first, of(often*m.N, m.V))
		}
		checkMerge(t, l, want)
		checkBulk(t, l, first)
	}
}

// At every length around where the rows of places are halved.
func TestBagsOfEveryLength(t *testing.T) {
	for n := 500; n <= 1100; n++ {
		var l, want []api.Many
		for i := range n {
			want = append(want, of(1, num(i)))
		}
		// Now from the one end, now from the other.
		for i := range n {
			at := i / 2
			if i%2 == 0 {
				at = n - 1 - i/2
			}
			l = append(l, want[at])
		}
		checkMerge(t, l, want)
		checkBulk(t, l, l)
		checkMerge(t, turned(want), want)
	}
}

func checkSame(t *testing.T, a, b []api.Many, want bool) {
	t.Helper()
	if bags.Same(a, b) != want || bags.Same(b, a) != want {
		t.Errorf("Same of %s and %s is not %v", show(a), show(b), want)
	}
}

func TestSame(t *testing.T) {
	a, b := num(3), num(7)
	checkSame(t, nil, nil, true)
	checkSame(t, nil, []api.Many{}, true)
	checkSame(t, nil, bag(of(1, a)), false)
	checkSame(t, bag(of(1, a)), bag(of(1, a)), true)
	checkSame(t, bag(of(1, a)), bag(of(2, a)), false)
	checkSame(t, bag(of(1, a)), bag(of(1, b)), false)
	checkSame(t, bag(of(1, a)), bag(of(1, a), of(1, b)), false)
	checkSame(t, bag(of(1, a), of(1, a)), bag(of(2, a)), true)
	checkSame(t, bag(of(1, a), of(1, a)), bag(of(1, a)), false)
	checkSame(t, bag(of(2, a), of(1, b)), bag(of(1, a), of(2, b)), false)
	checkSame(t, bag(of(1, a), of(2, b)), bag(of(2, b), of(1, a)), true)
	checkSame(t, bag(of(2, b), of(1, a), of(1, b)), bag(of(1, a), of(3, b)), true)
	checkSame(t, bag(of(2, b), of(1, a), of(1, b)), bag(of(1, b), of(1, b), of(1, b), of(1, a)), true)
	checkSame(t, bags.Of(rising()...), bags.Of(turned(rising())...), true)
	for i, v := range rising() {
		for k, x := range rising() {
			checkSame(t, bag(of(1, v)), bag(of(1, x)), i == k)
		}
	}
}

func TestSameAtTheEndOfRoom(t *testing.T) {
	a, b := num(3), num(7)
	full := bag(of(api.MaxInt, a), of(api.MaxInt, b))
	checkSame(t, full, turned(full), true)
	checkSame(t, bag(of(api.MaxInt, a)), bag(of(1, a), of(api.MaxInt-1, a)), true)
	for _, refused := range [][]api.Many{
		bag(of(api.MaxInt, a), of(1, a)),
		bag(of(0, a)),
		bag(of(-1, a)),
		bag(of(1, api.Value{Kind: 9})),
	} {
		checkSame(t, refused, refused, false)
		checkSame(t, refused, clone(refused), false)
		checkSame(t, refused, nil, false)
		checkSame(t, refused, bag(of(1, a)), false)
		checkSame(t, refused, full, false)
		checkSame(t, refused, bag(of(1, a), of(0, b)), false)
	}
	checkSame(t, bag(of(0, a)), bag(of(api.MaxInt, a), of(1, a)), false)
	checkSame(t, bag(of(0, a)), bag(of(0, b)), false)
}

func TestMergeRises(t *testing.T) {
	m, e := bags.Merge(bags.Of(slices.Concat(turned(rising()), rising())...))
	if e != api.OK || len(m) != len(rising()) {
		t.Fatal(show(m), e)
	}
	for i := 1; i < len(m); i++ {
		if value.Cmp(m[i-1].V, m[i].V) != -1 {
			t.Errorf("%s does not rise", show(m[i-1:i+1]))
		}
	}
}
