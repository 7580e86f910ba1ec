package pred_test

import (
	"slices"
	"testing"

	"wayfarer/api"
	"wayfarer/pred"
	"wayfarer/value"
)

// scribbleValues writes over values, what is in them, and the room behind.
func scribbleValues(l []api.Value) {
	for _, v := range l {
		scribbleValues(v.L)
		scribbleValues(v.M)
	}
	l = l[:cap(l)]
	for i := range l {
		l[i] = api.Value{Kind: 77, S: "written over"}
	}
}

// scribble writes over all that is in p, and the room behind it.
func scribble(p api.Pred) {
	scribbleValues(p.V)
	for _, x := range p.P {
		scribble(x)
	}
	row := p.P[:cap(p.P)]
	for i := range row {
		row[i] = api.Pred{Kind: 77, V: vals(num(77))}
	}
}

// roomy: p, with room behind each row, in which something stands.
func roomy(p api.Pred) api.Pred {
	p.V = roomyValues(p.V)
	row := append(slices.Clone(p.P), made(99))
	for i := range p.P {
		row[i] = roomy(p.P[i])
	}
	p.P = row[:len(row)-1]
	return p
}

func roomyValues(l []api.Value) []api.Value {
	row := append(slices.Clone(l), num(99))
	for i, v := range l {
		row[i].L, row[i].M = roomyValues(v.L), roomyValues(v.M)
	}
	return row[:len(row)-1]
}

// checkRoom: what stands behind the rows of roomy is as it was.
func checkRoom(t *testing.T, p api.Pred) {
	t.Helper()
	checkValuesRoom(t, p.V)
	if x := p.P[:len(p.P)+1][len(p.P)]; !alike(x, made(99)) {
		t.Error("the room behind predicates was written over")
	}
	for _, x := range p.P {
		checkRoom(t, x)
	}
}

func checkValuesRoom(t *testing.T, l []api.Value) {
	t.Helper()
	if v := l[:len(l)+1][len(l)]; !value.Same(v, num(99)) {
		t.Error("the room behind values was written over")
	}
	for _, v := range l {
		checkValuesRoom(t, v.L)
		checkValuesRoom(t, v.M)
	}
}

// nested: what is a predicate, and what is none, with rows in every place.
func nested() []api.Pred {
	deep := append(samples(), wrongThatEnd()...)
	for _, p := range samples() {
		deep = append(deep, not(p), and(p, gt(1), p), or(eq(1), not(p)), around(not, p, 5), and(or(p, p), not(and(p, p))))
	}
	return deep
}

// calls: those that answer a predicate.
func calls() map[string]func(api.Pred) api.Pred {
	return map[string]func(api.Pred) api.Pred{
		"Copy":   pred.Copy,
		"Negate": pred.Negate,
		"Join":   func(p api.Pred) api.Pred { return pred.Join(api.And, p, eq(1), p) },
		"Not":    func(p api.Pred) api.Pred { return pred.Join(api.Not, p) },
		"Check":  func(p api.Pred) api.Pred { pred.Check(p); return api.Pred{} },
		"Test":   func(p api.Pred) api.Pred { pred.Test(p, list(num(1))); return api.Pred{} },
	}
}

// What was handed in is not changed, and may be written over afterwards.
func TestArgumentsAreNotChangedNorKept(t *testing.T) {
	for what, call := range calls() {
		for i, p := range nested() {
			want := call(p)
			mine := roomy(nested()[i])
			got := call(mine)
			if !alike(mine, p) {
				t.Errorf("%s changes %s to %s", what, show(p), show(mine))
			}
			checkRoom(t, mine)
			scribble(mine)
			if !alike(got, want) {
				t.Errorf("%s(%s) = %s, and not %s, when that is written over", what, show(p), show(got), show(want))
			}
		}
	}
}

// What comes out may be written over: what was handed in, and what came out
// before and comes out afterwards, stays as it is.
func TestAnswersAreTheirOwners(t *testing.T) {
	for what, call := range calls() {
		for i, p := range nested() {
			want := call(nested()[i])
			before := call(p)
			scribble(call(p))
			if !alike(p, nested()[i]) {
				t.Errorf("%s shares with what was handed in: %s", what, show(nested()[i]))
			}
			if !alike(before, want) || !alike(call(p), want) {
				t.Errorf("%s shares with another answer: %s", what, show(p))
			}
		}
	}
}

// checkApart: no two of the rows in p share memory, nor the room behind them.
func checkApart(t *testing.T, what string, p api.Pred) {
	t.Helper()
	seenValues, seenPreds := map[*api.Value]bool{}, map[*api.Pred]bool{}
	var values func(l []api.Value)
	values = func(l []api.Value) {
		for i := range l[:cap(l)] {
			if x := &l[:cap(l)][i]; seenValues[x] {
				t.Error(what, "has a row of values twice:", show(p))
			} else {
				seenValues[x] = true
			}
		}
		for _, v := range l {
			values(v.L)
			values(v.M)
		}
	}
	var walk func(p api.Pred)
	walk = func(x api.Pred) {
		values(x.V)
		for i := range x.P[:cap(x.P)] {
			if y := &x.P[:cap(x.P)][i]; seenPreds[y] {
				t.Error(what, "has a row of predicates twice:", show(p))
			} else {
				seenPreds[y] = true
			}
		}
		for _, y := range x.P {
			walk(y)
		}
	}
	walk(p)
}

// A row that is handed in for several places is each one's own when it comes
// out.
func TestRowsHandedInTwice(t *testing.T) {
	row := list(num(1), list(num(2)))
	twice := of(api.Within, row, row, dict(row, row))
	one := of(api.Gt, row)
	for what, call := range calls() {
		for _, p := range preds(twice, and(twice, twice), or(one, one, not(one)), and(or(twice, one), or(twice, one)), not(and(one, one))) {
			checkApart(t, what, call(p))
		}
	}
	checkApart(t, "Join", pred.Join(api.Or, twice, twice, one, one, not(twice)))
	l := preds(twice, one, twice)
	checkApart(t, "Join", pred.Join(api.And, and(l...), or(l...)))
}

// The list of predicates that is handed in is not what comes out.
func TestJoinedListIsNotKept(t *testing.T) {
	l := preds(eq(1), gt(2), not(eq(3)), made(99))
	got := pred.Join(api.And, l[:3]...)
	if !alike(made(0, l...), made(0, eq(1), gt(2), not(eq(3)), made(99))) {
		t.Error("what was handed in was changed:", show(made(0, l...)))
	}
	scribble(made(0, l...))
	if !alike(got, and(eq(1), gt(2), not(eq(3)))) {
		t.Error("what was handed in was kept:", show(got))
	}
	l = preds(eq(1), gt(2), not(eq(3)), made(99))
	scribble(pred.Join(api.Or, l[:3]...))
	if !alike(made(0, l...), made(0, eq(1), gt(2), not(eq(3)), made(99))) {
		t.Error("what was handed in comes out:", show(made(0, l...)))
	}
}

// With a value that is written over, too.
func TestTestedValueIsNotChanged(t *testing.T) {
	for _, p := range samples() {
		for i, v := range rising() {
			mine := roomyValues(vals(v))[:1]
			first := pred.Test(p, mine[0])
			if !value.Same(mine[0], rising()[i]) {
				t.Error("changed:", showValue(v))
			}
			checkValuesRoom(t, mine)
			scribbleValues(mine[0].L)
			scribbleValues(mine[0].M)
			checkTest(t, p, rising()[i], first)
		}
	}
}
