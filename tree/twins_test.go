package tree_test

import (
	"math/rand"
	"slices"
	"testing"

	"wayfarer/api"
	"wayfarer/tree"
)

// checkTwins: whether two predicates are the same, wherever they stand.
func checkTwins(t *testing.T, p, q api.Pred, want bool) {
	t.Helper()
	checkSame(t, one(asked(p)), one(asked(q)), want)
	checkSame(t, one(word("x"), asked(p)), one(word("x"), asked(q)), want)
	checkSame(t, one(asked(eq(1)), asked(made(api.Or, eq(2), p))), one(asked(eq(1)), asked(made(api.Or, eq(2), q))), want)
	checkSame(t, around(arounds()[0], one(asked(p)), looked-1), around(arounds()[0], one(asked(q)), looked-1), want)
	checkSame(t, around(arounds()[0], one(asked(p)), looked), around(arounds()[0], one(asked(q)), looked), true)
}

// wraps: the ways in which a predicate is around another one.
func wraps() []func(api.Pred) api.Pred {
	return []func(api.Pred) api.Pred{
		not,
		func(p api.Pred) api.Pred { return made(api.And, eq(1), p) },
		func(p api.Pred) api.Pred { return made(api.Or, p, eq(1), eq(2)) },
		func(p api.Pred) api.Pred { return api.Pred{Kind: 77, V: vals(num(1)), P: []api.Pred{p}} },
	}
}

func wrapped(f func(api.Pred) api.Pred, p api.Pred, times int) api.Pred {
	for range times {
		p = f(p)
	}
	return p
}

// No predicate is so deep that it would not be looked at.
func TestSameDeepPreds(t *testing.T) {
	for _, f := range wraps() {
		for times := range 3 * api.MaxDepth {
			p := wrapped(f, eq(1), times)
			checkTwins(t, p, wrapped(f, eq(1), times), true)
			for _, other := range []api.Pred{eq(2), of(api.Neq, num(1)), of(api.Eq), of(api.Eq, num(1), num(1)), {Kind: api.Eq, V: vals(num(1)), P: []api.Pred{{}}}, {}} {
				checkTwins(t, p, wrapped(f, other, times), false)
			}
			for less := range times {
				checkTwins(t, p, wrapped(f, eq(1), less), false)
			}
		}
	}
}

// Two predicates that differ in one place, at any depth, by any field.
func TestSameButForOnePlaceOfAPred(t *testing.T) {
	base := func() *api.Pred {
		p := made(api.And, of(api.Within, num(1), list(num(2))), eq(3), made(api.Or, eq(4), eq(5)))
		return &p
	}
	for i, change := range []func(p *api.Pred){
		func(p *api.Pred) { p.Kind = api.Or },
		func(p *api.Pred) { p.V = vals(num(1)) },
		func(p *api.Pred) { p.P = p.P[:2] },
		func(p *api.Pred) { p.P = p.P[1:] },
		func(p *api.Pred) { p.P = append(p.P, eq(6)) },
		func(p *api.Pred) { p.P = nil },
		func(p *api.Pred) { p.P[0], p.P[1] = p.P[1], p.P[0] },
		func(p *api.Pred) { p.P[0].V[1].L[0].N = 1 },
		func(p *api.Pred) { p.P[0].V = p.P[0].V[:1] },
		func(p *api.Pred) { p.P[1].P = []api.Pred{eq(3)} },
		func(p *api.Pred) { p.P[2].Kind = api.And },
		func(p *api.Pred) { p.P[2].P[0].V[0].Kind = api.Vertex },
		func(p *api.Pred) { p.P[2].P[1].Kind = api.Neq },
		func(p *api.Pred) { p.P[2].P[1].P = []api.Pred{eq(3)} },
	} {
		p := base()
		change(p)
		for _, times := range []int{0, 1, api.MaxDepth - 1, api.MaxDepth, api.MaxDepth + 1, 100} {
			if alikePreds(*p, *base()) {
				t.Error(i, "is the same")
			}
			checkTwins(t, nots(*p, times), nots(*base(), times), false)
			checkTwins(t, nots(*p, times), nots(*p, times), true)
		}
	}
}

// What is deeper than calls within one another could go down.
func TestSameOfPredsThatAreVeryDeep(t *testing.T) {
	const times = 4000000
	l := one(asked(nots(eq(1), times)))
	if !tree.Same(l, one(asked(nots(eq(1), times)))) || tree.Same(l, one(asked(nots(eq(2), times)))) {
		t.Error("very deep predicates are not looked at")
	}
}

// What is as deep as it is handed in, not as deep as Copy makes it.
func TestSameAsItsCopy(t *testing.T) {
	for times := range 2 * api.MaxDepth {
		l := one(asked(nots(eq(1), times)))
		checkSame(t, l, tree.Copy(l), times < api.MaxDepth)
	}
	l := one(asked(nots(api.Pred{Kind: 77}, api.MaxDepth)))
	checkSame(t, l, tree.Copy(l), true)
}

// ring: so many predicates, each of which is in the next one, the last one in
// the first one; the first one has that kind, all others are Nots.
func ring(kind, size int) api.Pred {
	rows := make([][]api.Pred, size)
	for i := range rows {
		rows[i] = make([]api.Pred, 1)
	}
	for i := range rows {
		rows[i][0] = made(api.Not, rows[(i+1)%size]...)
	}
	rows[0][0].Kind = kind
	return rows[0][0]
}

// What is in itself is the same as what cannot be told from it, all the way
// down.
func TestSameOfPredsInThemselves(t *testing.T) {
	for _, p := range []api.Pred{endlessPred(api.Not, 1), endlessPred(77, 1), endlessPred(api.And, 2), endlessPred(api.Or, 1000)} {
		checkTwins(t, p, p, true)
		checkTwins(t, p, endlessPred(p.Kind, len(p.P)), true)
		checkTwins(t, p, made(p.Kind, p.P...), true)
		checkTwins(t, p, made(p.Kind, slices.Repeat([]api.Pred{p}, len(p.P))...), true)
		checkTwins(t, p, endlessPred(p.Kind, len(p.P)+1), false)
		checkTwins(t, p, endlessPred(p.Kind+1, len(p.P)), false)
		checkTwins(t, p, not(p), p.Kind == api.Not)
		checkTwins(t, p, nots(eq(1), 1000), false)
	}
	p := endlessPred(api.Not, 1)
	l := one(asked(p))
	checkSame(t, l, tree.Copy(l), false)
	// They differ in what stands in front of what is the same.
	checkTwins(t, made(api.And, eq(1), p), made(api.And, eq(2), p), false)
	checkTwins(t, made(api.And, p, eq(1)), made(api.And, p, eq(2)), false)
}

func TestSameOfRings(t *testing.T) {
	for a := 1; a <= 12; a++ {
		for b := 1; b <= 12; b++ {
			// Nots alone are the same, however long the way round is.
			checkTwins(t, ring(api.Not, a), ring(api.Not, b), true)
			checkTwins(t, ring(77, a), ring(77, b), a == b)
			checkTwins(t, ring(77, a), ring(api.Not, b), false)
		}
	}
	checkTwins(t, ring(api.Not, 10007), ring(api.Not, 9973), true)
	checkTwins(t, ring(77, 10007), ring(77, 9973), false)
}

// Rows that are handed in for many places are gone through once.
func TestSameOfSharedPreds(t *testing.T) {
	shared := func(n, levels int) api.Pred {
		p := eq(n)
		for range levels {
			p = made(api.And, slices.Repeat([]api.Pred{p}, 50)...)
		}
		return p
	}
	for _, levels := range []int{1, 5, 40, 1000} {
		checkTwins(t, shared(1, levels), shared(1, levels), true)
		checkTwins(t, shared(1, levels), shared(2, levels), false)
		checkTwins(t, shared(1, levels), shared(1, levels+1), false)
	}
	// A row that is a part of another one.
	row := []api.Pred{not(eq(1)), not(eq(1)), not(eq(2))}
	checkTwins(t, made(api.And, row[:2]...), made(api.And, row[1:]...), false)
	checkTwins(t, made(api.And, row[:1]...), made(api.And, row[1:2]...), true)
}

// web: so many predicates, each of chance ones of them all.
func web(r *rand.Rand, size int) []api.Pred {
	all, rows := make([]api.Pred, size), make([][]api.Pred, size)
	for i := range all {
		rows[i] = make([]api.Pred, r.Intn(3))
		all[i] = made(api.Not+r.Intn(2), rows[i]...)
	}
	for _, row := range rows {
		for i := range row {
			row[i] = all[r.Intn(size)]
		}
	}
	return all
}

// plainTwins: can the two not be told apart, so far down?
func plainTwins(p, q api.Pred, deep int) bool {
	if deep == 0 {
		return true
	}
	below := func(x, y api.Pred) bool { return plainTwins(x, y, deep-1) }
	return p.Kind == q.Kind && slices.EqualFunc(p.P, q.P, below)
}

// Of so few predicates two that differ at all differ less far down than there
// are predicates.
func TestSameOfAnyWeb(t *testing.T) {
	r := rand.New(rand.NewSource(1))
	same, other := 0, 0
	for range 2000 {
		size := 1 + r.Intn(6)
		all := web(r, size)
		p, q := all[r.Intn(size)], all[r.Intn(size)]
		want := plainTwins(p, q, size+1)
		checkTwins(t, p, q, want)
		if want && len(p.P) > 0 {
			same++
		} else if !want {
			other++
		}
	}
	if same < 100 || other < 100 {
		t.Error("too few:", same, other)
	}
}
