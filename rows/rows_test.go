package rows_test

import (
	"slices"
	"testing"

	"wayfarer/api"
	"wayfarer/rows"
)

// knot: a number, and rows of knots within it.
type knot struct {
	n  int
	in [][]knot
}

func sameKnots(a, b []knot) bool {
	same := func(x, y *knot) bool { return x.n == y.n }
	return rows.Same(a, b, same, func(x *knot) [][]knot { return x.in })
}

func check(t *testing.T, a, b []knot, want bool) {
	t.Helper()
	if sameKnots(a, b) != want || sameKnots(b, a) != want {
		t.Errorf("Same of %d and %d knots is not %v", len(a), len(b), want)
	}
}

// chain: so many knots, each within the one ahead, the last of that number.
func chain(n, size int) []knot {
	l := []knot{{n: n}}
	for range size - 1 {
		l = []knot{{in: [][]knot{l}}}
	}
	return l
}

// ring: so many knots, each within the one ahead, the first one within the
// last; the first one has that number.
func ring(n, size int) []knot {
	all := make([][]knot, size)
	for i := range all {
		all[i] = make([]knot, 1)
	}
	for i := range all {
		all[i][0].in = [][]knot{all[(i+1)%size]}
	}
	all[0][0].n = n
	return all[0]
}

func TestSame(t *testing.T) {
	one, two := []knot{{n: 1}}, []knot{{n: 1}, {n: 2}}
	check(t, nil, nil, true)
	check(t, nil, []knot{}, true)
	check(t, one, one, true)
	check(t, one, []knot{{n: 1}}, true)
	check(t, one, []knot{{n: 2}}, false)
	check(t, one, two, false)
	check(t, two, []knot{{n: 2}, {n: 1}}, false)
	check(t, one, []knot{{n: 1, in: [][]knot{}}}, true)
	check(t, one, []knot{{n: 1, in: [][]knot{nil}}}, false)
	check(t, []knot{{in: [][]knot{nil, one}}}, []knot{{in: [][]knot{nil, one}}}, true)
	check(t, []knot{{in: [][]knot{nil, one}}}, []knot{{in: [][]knot{one, nil}}}, false)
	check(t, []knot{{in: [][]knot{two, one}}}, []knot{{in: [][]knot{two, two}}}, false)
	// Rows of one beginning, or of one end, are rows of their own.
	check(t, []knot{{in: [][]knot{two[:1], two[1:]}}}, []knot{{in: [][]knot{two[:1], two[:1]}}}, false)
	check(t, []knot{{in: [][]knot{two[:1], two}}}, []knot{{in: [][]knot{one, one}}}, false)
}

func TestSameOfWhatHasNoEnd(t *testing.T) {
	for a := 1; a <= 9; a++ {
		for b := 1; b <= 9; b++ {
			check(t, ring(0, a), ring(0, b), true)
			check(t, ring(7, a), ring(7, b), a == b)
			check(t, ring(7, a), ring(0, b), false)
			check(t, ring(0, a), chain(0, b), false)
		}
	}
	const size = 300000
	check(t, chain(1, size), chain(1, size), true)
	check(t, chain(1, size), chain(2, size), false)
	check(t, chain(1, size), chain(1, size-1), false)
}

// Each row is gone through once for each other one, however often it is there.
func TestSameGoesThroughRowsOnce(t *testing.T) {
	wide := func(n int) []knot {
		l := []knot{{n: n}}
		for range 1000 {
			l = []knot{{in: slices.Repeat([][]knot{l}, 50)}, {in: slices.Repeat([][]knot{l}, 50)}}
		}
		return l
	}
	a, b, asked := wide(1), wide(1), 0
	same := func(x, y *knot) bool {
		asked++
		return x.n == y.n
	}
	if !rows.Same(a, b, same, func(x *knot) [][]knot { return x.in }) || asked > 2001 {
		t.Error(asked, "were asked")
	}
	check(t, a, wide(2), false)
}

func TestSamePreds(t *testing.T) {
	eq := func(n int) api.Pred { return api.Pred{Kind: api.Eq, V: []api.Value{{Kind: api.Int, N: n}}} }
	of := func(l ...api.Pred) api.Pred { return api.Pred{Kind: api.And, P: l} }
	row := make([]api.Pred, 1)
	row[0] = of(row...)
	all := []api.Pred{{}, eq(1), eq(2), {Kind: api.Eq}, {Kind: api.Neq, V: eq(1).V}, of(), of(eq(1)), of(eq(1), eq(1)), of(eq(2), eq(1)), of(of(eq(1))), row[0]}
	for i, p := range all {
		for j, q := range all {
			if rows.SamePreds(p, q) != (i == j) || rows.SamePreds(of(p), of(q)) != (i == j) {
				t.Error(i, j)
			}
		}
	}
	if !rows.SamePreds(row[0], of(row[0])) {
		t.Error("a predicate in itself, and one around it")
	}
}

func TestMet(t *testing.T) {
	l := []int{1, 2, 3}
	met := rows.Met[int]{}
	for _, x := range []struct {
		l     []int
		first bool
	}{
		{l, true}, {l, false}, {l[:2], true}, {l[1:], true}, {l[:2:2], false}, {l[1:2], true}, {[]int{1, 2, 3}, true},
		{nil, true}, {[]int{}, false}, {l[:0], false}, {l[2:2], false}, {l[:3], false},
	} {
		if met.Add(x.l) != x.first {
			t.Error(x.l, "is met for the first time:", !x.first)
		}
	}
	if rows.At(l) != rows.At(l[:3:3]) || rows.At(l) == rows.At(l[:2]) || rows.At(l) == rows.At(slices.Clone(l)) || rows.At(l[:0]) != rows.At[int](nil) {
		t.Error("places")
	}
}
