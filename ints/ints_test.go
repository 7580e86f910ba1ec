package ints_test

import (
	"math/big"
	"slices"
	"testing"

	"wayfarer/api"
	"wayfarer/ints"
)

// edges: numbers at which room ends, or signs turn.
func edges() []int {
	return []int{
		api.MinInt, api.MinInt + 1, api.MinInt + 2, api.MinInt / 2, api.MinInt/2 - 1,
		-1 << 32, -1 << 31, -3037000500, -3037000499, -1000, -10, -3, -2, -1, 0, 1, 2, 3, 10, 1000,
		3037000499, 3037000500, 1 << 31, 1 << 32, 1<<32 + 1,
		api.MaxInt / 2, api.MaxInt/2 + 1, api.MaxInt - 2, api.MaxInt - 1, api.MaxInt,
	}
}

// stepByStep: what a row comes to, if each step is tried in numbers of any size.
func stepByStep(first int, l []int, step func(z, x, y *big.Int) *big.Int) (int, api.Errno) {
	z := big.NewInt(int64(first))
	for _, n := range l {
		step(z, z, big.NewInt(int64(n)))
		if !z.IsInt64() {
			return 0, api.ErrRange
		}
	}
	return int(z.Int64()), api.OK
}

func checkRow(t *testing.T, l ...int) {
	t.Helper()
	before := slices.Clone(l)
	n, e := ints.Add(l...)
	if want, wantE := stepByStep(0, l, (*big.Int).Add); n != want || e != wantE {
		t.Errorf("Add(%v) = %d, %d; want %d, %d", l, n, e, want, wantE)
	}
	n, e = ints.Mul(l...)
	if want, wantE := stepByStep(1, l, (*big.Int).Mul); n != want || e != wantE {
		t.Errorf("Mul(%v) = %d, %d; want %d, %d", l, n, e, want, wantE)
	}
	if !slices.Equal(l, before) {
		t.Errorf("the row %v was changed to %v", before, l)
	}
}

func TestAddAndMulTellWhereEachStepHasRoom(t *testing.T) {
	for _, a := range edges() {
		checkRow(t, a)
		for _, b := range edges() {
			checkRow(t, a, b)
			for _, c := range edges() {
				checkRow(t, a, b, c)
			}
		}
	}
	checkRow(t, 1, 2, 3, 4, 5, 6, 7, 8, 9, 10, 11, 12, 13, 14, 15, 16, 17, 18, 19, 20)
	checkRow(t, 20, 19, 18, 17, 16, 15, 14, 13, 12, 11, 10, 9, 8, 7, 6, 5, 4, 3, 2, 1, 2)
}

func TestAdd(t *testing.T) {
	for _, x := range []struct {
		l    []int
		want int
		e    api.Errno
	}{
		{nil, 0, api.OK},
		{[]int{}, 0, api.OK},
		{[]int{5}, 5, api.OK},
		{[]int{2, -3, 4}, 3, api.OK},
		{[]int{api.MaxInt}, api.MaxInt, api.OK},
		{[]int{api.MinInt}, api.MinInt, api.OK},
		{[]int{api.MaxInt, api.MinInt}, -1, api.OK},
		{[]int{api.MaxInt, 1}, 0, api.ErrRange},
		{[]int{api.MinInt, -1}, 0, api.ErrRange},
		{[]int{api.MinInt, api.MinInt}, 0, api.ErrRange},
		{[]int{api.MaxInt, api.MaxInt}, 0, api.ErrRange},
		{[]int{api.MaxInt, 1, -1}, 0, api.ErrRange},
		{[]int{api.MaxInt, -1, 1}, api.MaxInt, api.OK},
		{[]int{api.MinInt, -1, 1}, 0, api.ErrRange},
	} {
		if n, e := ints.Add(x.l...); n != x.want || e != x.e {
			t.Errorf("Add(%v) = %d, %d; want %d, %d", x.l, n, e, x.want, x.e)
		}
	}
}

func TestSumsHangOnNoOrderWhileStepsHaveRoom(t *testing.T) {
	for _, a := range edges() {
		for _, b := range edges() {
			for _, c := range edges() {
				n, e := ints.Add(a, b, c)
				m, f := ints.Add(c, a, b)
				if e == api.OK && f == api.OK && n != m {
					t.Errorf("%d, %d, %d: %d in one order, %d in another", a, b, c, n, m)
				}
			}
		}
	}
}

func TestMul(t *testing.T) {
	for _, x := range []struct {
		l    []int
		want int
		e    api.Errno
	}{
		{nil, 1, api.OK},
		{[]int{}, 1, api.OK},
		{[]int{-3, 4}, -12, api.OK},
		{[]int{-3, -4}, 12, api.OK},
		{[]int{api.MinInt}, api.MinInt, api.OK},
		{[]int{api.MinInt, 1}, api.MinInt, api.OK},
		{[]int{api.MinInt, -1}, 0, api.ErrRange},
		{[]int{-1, api.MinInt}, 0, api.ErrRange},
		{[]int{api.MaxInt, -1}, -api.MaxInt, api.OK},
		{[]int{api.MaxInt, 2, 0}, 0, api.ErrRange},
		{[]int{0, api.MaxInt, 2}, 0, api.OK},
		{[]int{0, api.MinInt, -1}, 0, api.OK},
		{[]int{1 << 32, 1 << 31}, 0, api.ErrRange},
		{[]int{1 << 32, -1 << 31}, api.MinInt, api.OK},
		{[]int{1 << 32, 1 << 32}, 0, api.ErrRange},
		{[]int{-1 << 32, 1 << 32}, 0, api.ErrRange},
		{[]int{3037000500, 3037000500}, 0, api.ErrRange},
	} {
		if n, e := ints.Mul(x.l...); n != x.want || e != x.e {
			t.Errorf("Mul(%v) = %d, %d; want %d, %d", x.l, n, e, x.want, x.e)
		}
	}
}

func TestNeg(t *testing.T) {
	for _, n := range edges() {
		got, e := ints.Neg(n)
		if n == api.MinInt {
			if got != 0 || e != api.ErrRange {
				t.Errorf("Neg(MinInt) = %d, %d", got, e)
			}
			continue
		}
		if sum, sumE := ints.Add(n, got); e != api.OK || sum != 0 || sumE != api.OK {
			t.Errorf("Neg(%d) = %d, %d", n, got, e)
		}
	}
}

func TestTimes(t *testing.T) {
	for _, x := range []struct {
		n, k, want int
		e          api.Errno
	}{
		{7, 3, 21, api.OK},
		{-7, 3, -21, api.OK},
		{7, 0, 0, api.OK},
		{api.MinInt, 0, 0, api.OK},
		{api.MinInt, 1, api.MinInt, api.OK},
		{api.MinInt, 2, 0, api.ErrRange},
		{api.MaxInt, 1, api.MaxInt, api.OK},
		{api.MaxInt, 2, 0, api.ErrRange},
		{1, api.MaxInt, api.MaxInt, api.OK},
		{-1, api.MaxInt, -api.MaxInt, api.OK},
		{0, api.MaxInt, 0, api.OK},
		{2, api.MaxInt, 0, api.ErrRange},
		{-1 << 32, 1 << 31, api.MinInt, api.OK},
		{1 << 32, 1 << 31, 0, api.ErrRange},
		{5, -1, 0, api.ErrArg},
		{0, -1, 0, api.ErrArg},
		{-1, api.MinInt, 0, api.ErrArg},
		{api.MaxInt, api.MinInt, 0, api.ErrArg},
	} {
		if n, e := ints.Times(x.n, x.k); n != x.want || e != x.e {
			t.Errorf("Times(%d, %d) = %d, %d; want %d, %d", x.n, x.k, n, e, x.want, x.e)
		}
	}
}

func TestTimesIsCopiesAdded(t *testing.T) {
	for _, n := range edges() {
		for k := range 12 {
			got, e := ints.Times(n, k)
			want, wantE := ints.Add(slices.Repeat([]int{n}, k)...)
			if got != want || e != wantE {
				t.Errorf("Times(%d, %d) = %d, %d; want %d, %d", n, k, got, e, want, wantE)
			}
		}
	}
}

func TestLeastAndGreatest(t *testing.T) {
	for _, x := range []struct {
		l               []int
		least, greatest int
	}{
		{[]int{0}, 0, 0},
		{[]int{3, -4, 9}, -4, 9},
		{[]int{-3, -4}, -4, -3},
		{[]int{5, 5, 5}, 5, 5},
		{[]int{1, 2, 3}, 1, 3},
		{[]int{3, 2, 1}, 1, 3},
		{[]int{api.MinInt}, api.MinInt, api.MinInt},
		{[]int{api.MaxInt}, api.MaxInt, api.MaxInt},
		{[]int{0, api.MaxInt, api.MinInt, 1}, api.MinInt, api.MaxInt},
	} {
		before := slices.Clone(x.l)
		if n, ok := ints.Least(x.l...); n != x.least || !ok {
			t.Errorf("Least(%v) = %d, %v", x.l, n, ok)
		}
		if n, ok := ints.Greatest(x.l...); n != x.greatest || !ok {
			t.Errorf("Greatest(%v) = %d, %v", x.l, n, ok)
		}
		if !slices.Equal(x.l, before) {
			t.Errorf("the row %v was changed to %v", before, x.l)
		}
	}
	for _, none := range [][]int{nil, {}} {
		if n, ok := ints.Least(none...); n != 0 || ok {
			t.Errorf("Least of none = %d, %v", n, ok)
		}
		if n, ok := ints.Greatest(none...); n != 0 || ok {
			t.Errorf("Greatest of none = %d, %v", n, ok)
		}
	}
}
