package plan_test

import (
	"testing"

	"wayfarer/api"
	"wayfarer/plan"
)

// edges: numbers at which something ends, or begins.
var edges = [...]int{api.MinInt, -3, -2, -1, 0, 1, 2, 3, 50, api.MaxInt - 1, api.MaxInt}

func checkWhether(t *testing.T, x api.Step, good bool) {
	t.Helper()
	if good {
		checkStep(t, x)
	} else {
		checkNoStep(t, x)
	}
}

func TestCheckNumbers(t *testing.T) {
	for _, n := range edges {
		for _, op := range []int{api.OpV, api.OpE} {
			checkWhether(t, nums(op, n), n >= 0)
			checkWhether(t, nums(op, 1, n, 1), n >= 0)
			checkWhether(t, nums(op, n, 0), n >= 0)
		}
		checkWhether(t, nums(api.OpHasID, n), true)
		checkWhether(t, nums(api.OpHasID, 1, n), true)
		checkWhether(t, nums(api.OpTail, n), n >= 0)
		for _, m := range edges {
			checkWhether(t, nums(api.OpRange, n, m), n >= 0 && (m == -1 || m >= n))
			checkWhether(t, repeat(n, m, nil), n >= 0 && (m == 0 || m == 1))
			checkWhether(t, repeat(n, m, nil, many(1)), n >= -1 && (m == 0 || m == 1))
		}
	}
}

// Names are asked for in every text that a step has.
func TestCheckNames(t *testing.T) {
	for _, s := range goodNames() {
		for op, f := range fieldsByOp(t) {
			x := texts(op, "x", s)
			if op == api.OpHas {
				x.P = eq(1)
			}
			if f.S[1] > 1 {
				checkStep(t, x)
			}
			if x.S = x.S[1:]; f.S[1] > 0 {
				checkStep(t, x)
			}
		}
		checkStep(t, as(bare(api.OpID), "x", s))
		checkStep(t, done(api.OpOrder, byValue(), byKey(s)))
	}
	for _, s := range noNames() {
		for op, f := range fieldsByOp(t) {
			x := texts(op, "x", s, "y")
			if op == api.OpHas {
				x.P = eq(1)
			}
			if f.S[1] > 1 {
				checkNoStep(t, x)
			}
			if x.S = x.S[1:2]; f.S[1] > 0 {
				checkNoStep(t, x)
			}
		}
		for _, x := range sound() {
			checkCheck(t, steps(as(x, "x", s, "y")), api.ErrArg)
			checkCheck(t, steps(as(x, s)), api.ErrArg)
		}
		checkNoStep(t, done(api.OpOrder, byValue(), byKey(s)))
		checkNoStep(t, done(api.OpGroup, byKey(s)))
		checkNoStep(t, done(api.OpGroupCount, byKey(s)))
		checkNoStep(t, project([]string{"x"}, byKey(s)))
	}
}

func TestCheckProject(t *testing.T) {
	for _, l := range [][]string{{"a", "a"}, {"a", "b", "a"}, {"b", "a", "a"}, {"a", "b", "c", "b"}, append(labels(49), "n0")} {
		checkNoStep(t, project(l))
		checkNoStep(t, project(l, byValue()))
	}
	checkStep(t, project([]string{"a", "A", "_a", "a_", "aa"}))
	for names := 1; names <= api.MaxArgs; names++ {
		for bys := range api.MaxArgs + 2 {
			var l []api.By
			for range bys {
				l = append(l, byKey("k"))
			}
			want := api.ErrArg
			if bys <= names {
				want = api.OK
			}
			checkCheck(t, steps(project(labels(names), l...)), want)
		}
	}
	// By the same name twice nothing else may be wrong.
	checkStep(t, texts(api.OpSelect, "a", "a"))
	checkStep(t, as(project([]string{"a"}), "a", "a"))
}

// Every By, of every kind, with and without each field, in each step that may
// have one.
func TestCheckBys(t *testing.T) {
	in := map[int]func(b api.By) api.Step{
		api.OpOrder:      func(b api.By) api.Step { return done(api.OpOrder, byValue(), b) },
		api.OpGroup:      func(b api.By) api.Step { return done(api.OpGroup, b, byValue()) },
		api.OpGroupCount: func(b api.By) api.Step { return done(api.OpGroupCount, b) },
		api.OpProject:    func(b api.By) api.Step { return project([]string{"p", "q"}, byValue(), b) },
	}
	for _, kind := range []int{api.MinInt, -1, 0, api.ByValue, api.ByKey, api.ByChain, 4, 5, api.MaxInt} {
		for _, key := range []string{"", "k", "9"} {
			for _, p := range [][]api.Step{nil, many(1), steps(bare(0))} {
				for _, desc := range []bool{false, true} {
					b := api.By{Kind: kind, Key: key, T: p, Desc: desc}
					good := kind == api.ByValue && key == "" && len(p) == 0 ||
						kind == api.ByKey && key == "k" && len(p) == 0 ||
						kind == api.ByChain && key == "" && (len(p) == 0 || p[0].Op != 0)
					for op, f := range in {
						checkWhether(t, f(b), good && (!desc || op == api.OpOrder))
					}
				}
			}
		}
	}
}

func TestCheckValuesAndPreds(t *testing.T) {
	for _, v := range values() {
		checkStep(t, constant(v))
		checkStep(t, is(of(api.Eq, v)))
		checkStep(t, has("k", of(api.Within, num(1), v)))
	}
	for _, v := range noValues() {
		checkNoStep(t, constant(v))
		checkNoStep(t, is(of(api.Eq, v)))
		checkNoStep(t, has("k", of(api.Within, num(1), v)))
		checkNoStep(t, is(not(of(api.Neq, v))))
	}
	for _, p := range preds() {
		checkStep(t, is(p))
		checkStep(t, has("k", p))
	}
	for _, p := range noPreds() {
		checkNoStep(t, is(p))
		checkNoStep(t, has("k", p))
		checkNoStep(t, is(made(api.Or, eq(1), p)))
	}
}

// What is wrong in a plan within a plan is wrong, whichever plan it is.
func TestCheckPlansWithin(t *testing.T) {
	wrong := steps(bare(api.OpID), texts(api.OpCount, "a"))
	places := 0
	for _, x := range sound() {
		for i := range x.T {
			y := plan.Copy(steps(x))[0]
			y.T[i] = many(2)
			checkStep(t, y)
			y.T[i] = wrong
			checkNoStep(t, y)
			places++
		}
		for i, b := range x.By {
			if b.Kind != api.ByChain {
				continue
			}
			y := plan.Copy(steps(x))[0]
			y.By[i].T = many(2)
			checkStep(t, y)
			y.By[i].T = wrong
			checkNoStep(t, y)
			places++
		}
	}
	if places < 40 {
		t.Error("only", places, "plans within")
	}
}
