package bags_test

import (
	"slices"
	"testing"

	"wayfarer/api"
	"wayfarer/bags"
	"wayfarer/value"
)

// counted: each value once, as it comes first, told in the plainest way.
func counted(values []api.Value) []api.Many {
	var l []api.Many
	for _, v := range values {
		i := slices.IndexFunc(l, func(m api.Many) bool { return equal(m.V, v) })
		if i < 0 {
			l = append(l, of(1, v))
			continue
		}
		l[i].N++
	}
	return l
}

// laidOut: each value as often as it is there.
func laidOut(l []api.Many) []api.Value {
	var values []api.Value
	for _, m := range l {
		values = append(values, slices.Repeat(vals(m.V), m.N)...)
	}
	return values
}

func byValue(l []api.Many) []api.Many {
	l = slices.Clone(l)
	slices.SortFunc(l, func(a, b api.Many) int { return value.Cmp(a.V, b.V) })
	return l
}

// smallBags: all of at most three bulks, each of one of these values, once to
// thrice.
func smallBags() [][]api.Many {
	values := vals(word("b"), num(3), list(num(3), word("b")), dict(num(3), list()))
	all := [][]api.Many{nil}
	longest := all
	for range 3 {
		var longer [][]api.Many
		for _, l := range longest {
			for _, v := range values {
				for n := 1; n <= 3; n++ {
					longer = append(longer, append(slices.Clone(l), of(n, v)))
				}
			}
		}
		all, longest = append(all, longer...), longer
	}
	return all
}

func TestSmallBags(t *testing.T) {
	for _, l := range smallBags() {
		before := clone(l)
		values := laidOut(l)
		checkBulk(t, l, counted(values))
		checkMerge(t, l, byValue(counted(values)))
		checkCount(t, l, len(values), api.OK)
		checkExpand(t, l, len(values), values...)
		checkTooLong(t, l, len(values)-1)
		checkBag(t, "what was handed in", l, before)
	}
}

func TestSmallBagsAreTheSameOrNot(t *testing.T) {
	all := slices.DeleteFunc(smallBags(), func(l []api.Many) bool { return len(l) > 2 })
	for _, a := range all {
		for _, b := range all {
			want := alike(byValue(counted(laidOut(a))), byValue(counted(laidOut(b))))
			checkSame(t, a, b, want)
		}
	}
}

// changes: what may be done to a bag, so that it stays the same one.
func changes() []func(l []api.Many) []api.Many {
	return []func(l []api.Many) []api.Many{
		func(l []api.Many) []api.Many { m, _ := bags.Merge(l); return m },
		func(l []api.Many) []api.Many { m, _ := bags.Bulk(l); return m },
		func(l []api.Many) []api.Many { v, _ := bags.Expand(l, 1000); return bags.Of(v...) },
		turned[api.Many],
	}
}

// Merged, bulked, expanded, in whichever order.
func TestItIsTheSameBag(t *testing.T) {
	big := bag(of(2, list(num(1))), of(5, num(9)), of(1, word("w")), of(3, num(9)), of(7, dict()), of(1, list(num(1))))
	for _, start := range append(smallBags()[:400], big) {
		want, _ := bags.Merge(start)
		n, _ := bags.Count(start)
		for _, f := range changes() {
			for _, g := range changes() {
				for _, h := range changes() {
					l := h(g(f(start)))
					checkMerge(t, l, want)
					checkCount(t, l, n, api.OK)
					checkSame(t, start, l, true)
				}
			}
		}
	}
}

func TestBulkedOrMergedTwiceIsOnce(t *testing.T) {
	for _, l := range smallBags() {
		merged, _ := bags.Merge(l)
		bulked, _ := bags.Bulk(l)
		checkMerge(t, merged, merged)
		checkBulk(t, merged, merged)
		checkBulk(t, bulked, bulked)
		checkMerge(t, bulked, merged)
		values, _ := bags.Expand(l, 100)
		checkBulk(t, bags.Of(values...), bulked)
	}
}

func fresh() []api.Many {
	inner := dict(num(1), list(num(2), list(num(3))), list(num(4)), path(num(5)))
	return bag(of(2, list(inner, num(0))), of(1, num(7)), of(1, list(inner, num(0))), of(3, inner))
}

// Whatever is done to what was handed in, or to what came out of one call,
// another answer stays as it is.
func TestAnswersAreTheirOwners(t *testing.T) {
	room := append(fresh(), of(9, num(9)))[:len(fresh())]
	for name, f := range map[string]func(l []api.Many) []api.Many{
		"Merge": func(l []api.Many) []api.Many { m, _ := bags.Merge(l); return m },
		"Bulk":  func(l []api.Many) []api.Many { m, _ := bags.Bulk(l); return m },
		"Of": func(l []api.Many) []api.Many {
			var values []api.Value
			for _, m := range l {
				values = append(values, m.V)
			}
			return bags.Of(values...)
		},
	} {
		l := clone(room)
		want := clone(f(l))
		checkBag(t, name+" changed what was handed in", l, fresh())
		got, other := f(l), f(l)
		scribbleBag(got)
		checkBag(t, name+" shares memory with what was handed in", l, fresh())
		checkBag(t, name+" shares memory with another answer", other, want)
		scribbleBag(l)
		checkBag(t, name+" keeps what was handed in", other, want)
		// No two values of one answer share any, either.
		scribble(other[0].V, 1)
		checkBag(t, name+" shares memory within an answer", other[1:], want[1:])
	}
	bags.Check(room)
	bags.Count(room)
	bags.Same(room, room)
	checkBag(t, "what was handed in", room, fresh())
	if room[:cap(room)][len(room)].N != 9 {
		t.Error("the room behind what was handed in was written over")
	}
}

func TestExpandedValuesAreTheirOwners(t *testing.T) {
	l := fresh()
	want := laidOut(fresh())
	got, _ := bags.Expand(l, 7)
	other, _ := bags.Expand(l, 7)
	for i := range got {
		scribble(got[i], 1)
		checkValues(t, "those behind it", got[i+1:], want[i+1:])
	}
	scribble(api.Value{L: got}, 1)
	checkBag(t, "what was handed in", l, fresh())
	scribbleBag(l)
	checkValues(t, "another answer", other, want)
}

// One value that is handed in twice comes out as two.
func TestOfCopiesEach(t *testing.T) {
	one := list(list(num(1)), num(2))
	l := bags.Of(one, one)
	scribble(l[0].V, 1)
	checkBag(t, "the other one", l[1:], bag(of(1, list(list(num(1)), num(2)))))
	checkValues(t, "the one", vals(one), vals(list(list(num(1)), num(2))))
}

// Whatever comes in: each call ends, tells one of its errors, and nothing
// beside.
func TestAnyInput(t *testing.T) {
	all := append(wrong(), fresh()...)
	for _, v := range rising() {
		all = append(all, of(1, v), of(api.MaxInt, v))
	}
	for _, a := range all {
		for _, b := range all {
			l := bag(a, b)
			checked := bags.Check(l)
			if checked != api.OK && checked != api.ErrArg {
				t.Error("Check", checked)
			}
			n, e := bags.Count(l)
			checkAny(t, "Count", e, checked, api.ErrRange, n != 0)
			m, e := bags.Merge(l)
			checkAny(t, "Merge", e, checked, api.ErrRange, len(m) != 0)
			m, e = bags.Bulk(l)
			checkAny(t, "Bulk", e, checked, api.ErrRange, len(m) != 0)
			v, e := bags.Expand(l, 10)
			checkAny(t, "Expand", e, checked, api.ErrLong, len(v) != 0)
			if bags.Same(l, l) && checked != api.OK {
				t.Error("Same")
			}
			if len(bags.Of(a.V, b.V)) != 2 {
				t.Error("Of")
			}
		}
	}
}

func checkAny(t *testing.T, name string, e, checked, own api.Errno, some bool) {
	t.Helper()
	if e != api.OK && e != api.ErrArg && e != own {
		t.Errorf("%s tells %d", name, e)
	}
	if (e == api.ErrArg) != (checked == api.ErrArg) || some != (e == api.OK) {
		t.Errorf("%s tells %d, Check %d, and there is an answer: %v", name, e, checked, some)
	}
}
