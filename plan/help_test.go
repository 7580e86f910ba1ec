package plan_test

import (
	"fmt"
	"go/ast"
	"go/parser"
	"go/token"
	"slices"
	"strconv"
	"strings"
	"testing"

	"wayfarer/api"
	"wayfarer/graph"
	"wayfarer/plan"
	"wayfarer/pred"
	"wayfarer/value"
)

const (
	// deepest: so many plans within one another may be.
	deepest = 11
	// looked: so many of them are looked at: l, and MaxNest and 1 of those
	// within it.
	looked = 12
)

// Short names for what the tests are made of.
var (
	num  = value.Number
	text = value.Word
)

func list(l ...api.Value) api.Value { return api.Value{Kind: api.List, L: l} }

func vals(l ...api.Value) []api.Value { return l }

func of(kind int, l ...api.Value) api.Pred { return api.Pred{Kind: kind, V: l} }

func made(kind int, l ...api.Pred) api.Pred { return api.Pred{Kind: kind, P: l} }

func not(p api.Pred) api.Pred { return made(api.Not, p) }

func eq(n int) api.Pred { return of(api.Eq, num(n)) }

// Steps by what they have: texts, numbers, plans, by what they are done.
func bare(op int) api.Step { return api.Step{Op: op} }

func texts(op int, l ...string) api.Step { return api.Step{Op: op, S: l} }

func nums(op int, l ...int) api.Step { return api.Step{Op: op, N: l} }

func subs(op int, l ...[]api.Step) api.Step { return api.Step{Op: op, T: l} }

func done(op int, l ...api.By) api.Step { return api.Step{Op: op, By: l} }

func has(key string, p api.Pred) api.Step { return api.Step{Op: api.OpHas, S: []string{key}, P: p} }

func is(p api.Pred) api.Step { return api.Step{Op: api.OpIs, P: p} }

func constant(v api.Value) api.Step { return api.Step{Op: api.OpConstant, V: v} }

func where(l ...api.Step) api.Step { return subs(api.OpWhere, l) }

func repeat(times, emit int, l ...[]api.Step) api.Step {
	return api.Step{Op: api.OpRepeat, T: l, N: []int{times, emit}}
}

func project(names []string, l ...api.By) api.Step {
	return api.Step{Op: api.OpProject, S: names, By: l}
}

func as(x api.Step, names ...string) api.Step {
	x.As = names
	return x
}

func steps(l ...api.Step) []api.Step { return l }

// many: a plan of so many steps.
func many(n int) []api.Step { return slices.Repeat(steps(bare(api.OpCount)), n) }

// The three kinds of By.
func byValue() api.By { return api.By{Kind: api.ByValue} }

func byKey(key string) api.By { return api.By{Kind: api.ByKey, Key: key} }

func byPlan(l ...api.Step) api.By { return api.By{Kind: api.ByChain, T: l} }

func down(b api.By) api.By {
	b.Desc = true
	return b
}

func letters(n int) string { return strings.Repeat("a", n) }

// labels: so many names, all different.
func labels(n int) []string {
	var l []string
	for i := range n {
		l = append(l, "n"+strconv.Itoa(i))
	}
	return l
}

// within: v in so many lists, one around the other.
func within(v api.Value, lists int) api.Value {
	for range lists {
		v = list(v)
	}
	return v
}

// nots: so many Nots around p.
func nots(p api.Pred, times int) api.Pred {
	for range times {
		p = not(p)
	}
	return p
}

// arounds: the ways in which a plan is around another one.
func arounds() []func([]api.Step) []api.Step {
	count := many(1)
	return []func([]api.Step) []api.Step{
		func(l []api.Step) []api.Step { return steps(where(l...)) },
		func(l []api.Step) []api.Step {
			return steps(bare(api.OpID), subs(api.OpUnion, count, l, nil), bare(api.OpFold))
		},
		func(l []api.Step) []api.Step { return steps(as(subs(api.OpChoose, count, nil, l), "a")) },
		func(l []api.Step) []api.Step { return steps(repeat(-1, 0, count, l), bare(api.OpDedup)) },
		func(l []api.Step) []api.Step { return steps(repeat(2, 1, l)) },
		func(l []api.Step) []api.Step {
			return steps(done(api.OpOrder, byKey("k"), down(byPlan(l...)), byValue()))
		},
		func(l []api.Step) []api.Step { return steps(done(api.OpGroup, byPlan(count...), byPlan(l...))) },
		func(l []api.Step) []api.Step { return steps(done(api.OpGroupCount, byPlan(l...))) },
		func(l []api.Step) []api.Step { return steps(project([]string{"p", "q"}, byPlan(l...), byKey("k"))) },
	}
}

// around: f, so many times, around l.
func around(f func([]api.Step) []api.Step, l []api.Step, times int) []api.Step {
	for range times {
		l = f(l)
	}
	return l
}

// tower: so many plans within one another, each of one step.
func tower(height int) []api.Step {
	return around(arounds()[0], many(1), height-1)
}

// inItself: a plan of so many steps, each of which has the plan itself as each
// of so many plans in T, and by which it is done.
func inItself(size, inT, inBy int) []api.Step {
	l := make([]api.Step, size)
	for i := range l {
		l[i] = api.Step{Op: api.OpUnion, T: slices.Repeat([][]api.Step{l}, inT), By: slices.Repeat([]api.By{byPlan(l...)}, inBy)}
	}
	return l
}

// shared: a plan of one step, so many times within one another, handed in for
// each of so many places in T, and of so many by which it is done.
func shared(last []api.Step, times, inT, inBy int) []api.Step {
	both := func(l []api.Step) []api.Step {
		return steps(api.Step{Op: api.OpUnion, T: slices.Repeat([][]api.Step{l}, inT), By: slices.Repeat([]api.By{byPlan(l...)}, inBy)})
	}
	return around(both, last, times)
}

// endlessList: a list that lies within itself.
func endlessList() api.Value {
	row := make([]api.Value, 1)
	row[0] = list(row...)
	return row[0]
}

// endlessPred: a predicate that is in itself, so many times side by side.
func endlessPred(kind, wide int) api.Pred {
	row := make([]api.Pred, wide)
	for i := range row {
		row[i] = made(kind, row...)
	}
	return row[0]
}

// noValues: what is no value.
func noValues() []api.Value {
	return []api.Value{
		{}, {Kind: -1}, {Kind: 9}, {Kind: api.MinInt}, {Kind: api.MaxInt}, {N: 1}, {S: "a"}, {L: vals(num(1))}, {M: vals(num(1))},
		{Kind: api.Bool, N: 2}, {Kind: api.Int, S: "a"}, {Kind: api.Text, N: 1}, {Kind: api.List, M: vals(num(1))},
		{Kind: api.Vertex, N: -1}, {Kind: api.Map, L: vals(num(1))}, list(api.Value{}),
		text(letters(api.MaxText + 1)), within(list(), api.MaxDepth), endlessList(),
		list(slices.Repeat(vals(num(1)), api.MaxItems+1)...),
	}
}

// values: those of all kinds, also ones that no query can have.
func values() []api.Value {
	return []api.Value{
		value.Truth(false), value.Truth(true), num(0), num(api.MinInt), num(api.MaxInt), text(""), text("\x00'"), text(letters(api.MaxText)),
		{Kind: api.Vertex}, {Kind: api.Edge, N: 7}, list(), list(num(1), list(text("a"))), {Kind: api.Path, L: vals(num(1))},
		{Kind: api.Map, L: vals(num(1), text("a")), M: vals(list(), num(2))}, within(num(1), api.MaxDepth-1),
	}
}

// noPreds: what is no predicate.
func noPreds() []api.Pred {
	return []api.Pred{
		{}, {V: vals(num(1))}, {P: []api.Pred{eq(1)}}, of(-1, num(1)), of(15, num(1)), made(15, eq(1), eq(2)), of(api.MinInt), of(api.MaxInt),
		of(api.Eq), of(api.Eq, num(1), num(2)), of(api.Eq, api.Value{}), of(api.Between, num(1)), of(api.Not, num(1)), made(api.Eq, eq(1)),
		{Kind: api.Eq, V: vals(num(1)), P: []api.Pred{eq(1)}}, made(api.Not), made(api.Not, eq(1), eq(2)), made(api.And, eq(1)),
		not(api.Pred{}), of(api.Within, slices.Repeat(vals(num(1)), api.MaxItems+1)...),
		nots(eq(1), api.MaxDepth), endlessPred(api.Not, 1), endlessPred(api.And, 2),
	}
}

// preds: predicates of many shapes.
func preds() []api.Pred {
	return []api.Pred{
		eq(1), of(api.Neq, list()), of(api.Lt, text("a")), of(api.Lte, num(1)), of(api.Gt, value.Truth(true)), of(api.Gte, api.Value{Kind: api.Vertex}),
		of(api.Between, num(2), num(1)), of(api.Inside, num(1), text("a")), of(api.Outside, num(1), num(2)), of(api.Within), of(api.Without, num(1), num(1)),
		not(eq(1)), made(api.And, eq(1), eq(1)), made(api.Or, eq(1), not(eq(2)), made(api.And, eq(1), of(api.Within))), nots(eq(1), api.MaxDepth-1),
	}
}

// noNames: what is no name.
func noNames() []string {
	return []string{
		"", " ", "9", "1a", "-", "a-b", "a b", " a", "a ", "a.b", "a'", "é", "\x00", "a\x80", "@", "[", "`", "{", "/", ":",
		letters(api.MaxName + 1), letters(5000),
	}
}

// goodNames: what a name may be.
func goodNames() []string {
	return []string{"a", "Z", "_", "__", "_1", "a9", "true", "not", "V", "asc", letters(api.MaxName)}
}

// opsOfApi: all that steps do, by their names in api, without Op.
func opsOfApi(t *testing.T) map[string]int {
	t.Helper()
	file, err := parser.ParseFile(token.NewFileSet(), "../api/api.go", nil, 0)
	if err != nil {
		t.Fatal(err)
	}
	ops := map[string]int{}
	ast.Inspect(file, func(n ast.Node) bool {
		x, ok := n.(*ast.ValueSpec)
		if !ok || len(x.Names) != 1 || len(x.Values) != 1 {
			return true
		}
		name, isOp := strings.CutPrefix(x.Names[0].Name, "Op")
		number, isNumber := x.Values[0].(*ast.BasicLit)
		if isOp && isNumber {
			if ops[name], err = strconv.Atoi(number.Value); err != nil {
				t.Fatal(err)
			}
		}
		return true
	})
	if len(ops) != 51 {
		t.Fatal(len(ops), "Ops were found")
	}
	return ops
}

// fields: how many of each a step may have, from the one up to the other, and
// whether it has a value, and a predicate.
type fields struct {
	S, N, T, By [2]int
	V, P        bool
}

// table: a step's fields by its Op, as the chapter has them: a star is as many
// as one likes, a plus one or more of these, a digit just so many, and two are
// from the one up to the other.
const table = `
V E: N*
Out In Both OutE InE BothE Values: S*
OutV InV BothV ID Label Identity Dedup Simple Cyclic Count Sum Min Max Fold Unfold Trail Barrier:
Constant: V
HasLabel Select: S+
Has: S1 P
HasKey HasNot Aggregate Cap: S1
HasID: N+
Is: P
Range: N2
Tail: N1
Where NotThat Optional: T1
AllOf AnyOf Union Coalesce: T+
Choose: T3
Repeat: T12 N2
Order: B*
Group: B02
GroupCount: B01
Project: S+ B*`

func fieldsByOp(t *testing.T) map[int]fields {
	t.Helper()
	ops, all := opsOfApi(t), map[int]fields{}
	for _, line := range strings.Split(strings.TrimSpace(table), "\n") {
		names, rest, _ := strings.Cut(line, ":")
		f := fieldsOf(rest)
		for _, name := range strings.Fields(names) {
			all[ops[name]] = f
		}
	}
	if len(all) != 51 {
		t.Fatal(len(all), "Ops have fields")
	}
	return all
}

func fieldsOf(s string) fields {
	var f fields
	for _, word := range strings.Fields(s) {
		switch word[0] {
		case 'S':
			f.S = span(word[1:])
		case 'N':
			f.N = span(word[1:])
		case 'T':
			f.T = span(word[1:])
		case 'B':
			f.By = span(word[1:])
		case 'V':
			f.V = true
		case 'P':
			f.P = true
		}
	}
	return f
}

func span(s string) [2]int {
	switch s {
	case "*":
		return [2]int{0, 50}
	case "+":
		return [2]int{1, 50}
	}
	return [2]int{int(s[0] - '0'), int(s[len(s)-1] - '0')}
}

func (f fields) fit(x api.Step) bool {
	in := func(n int, s [2]int) bool { return s[0] <= n && n <= s[1] }
	return in(len(x.S), f.S) && in(len(x.N), f.N) && in(len(x.T), f.T) && in(len(x.By), f.By) &&
		f.V == !value.Same(x.V, api.Value{}) && f.P == !alikePreds(x.P, api.Pred{})
}

// plainCheck: is l a plan, as the chapter tells it?
func plainCheck(all map[int]fields, l []api.Step) bool {
	return plainSteps(l, 1) <= api.MaxSteps && plainNest(l) <= deepest &&
		every(l, func(x api.Step) bool { return plainStep(all, x) })
}

func plainStep(all map[int]fields, x api.Step) bool {
	f, ok := all[x.Op]
	if !ok || !f.fit(x) || len(x.As) > 50 || !every(x.S, graph.Name) || !every(x.As, graph.Name) {
		return false
	}
	if f.V && value.Check(x.V) != api.OK || f.P && pred.Check(x.P) != api.OK {
		return false
	}
	notBelow0 := func(n int) bool { return n >= 0 }
	ok = true
	switch plan.Name(x.Op) {
	case "V", "E", "Tail":
		ok = every(x.N, notBelow0)
	case "Range":
		ok = x.N[0] >= 0 && (x.N[1] == -1 || x.N[1] >= x.N[0])
	case "Repeat":
		ok = x.N[0] >= -1 && (x.N[1] == 0 || x.N[1] == 1) && !(len(x.T) == 1 && x.N[0] == -1)
	case "Project":
		sorted := slices.Sorted(slices.Values(x.S))
		ok = len(slices.Compact(sorted)) == len(x.S) && len(x.By) <= len(x.S)
	}
	inner := func(p []api.Step) bool { return plainCheck(all, p) }
	by := func(b api.By) bool {
		return plainBy(b) && (!b.Desc || x.Op == api.OpOrder) && inner(b.T)
	}
	return ok && every(x.T, inner) && every(x.By, by)
}

func plainBy(b api.By) bool {
	key, inner := b.Key != "", len(b.T) != 0
	return b.Kind == 1 && !key && !inner || b.Kind == 2 && graph.Name(b.Key) && !inner || b.Kind == 3 && !key
}

// plainSteps: how many steps there are in l, which stands at that level, as far
// down as is looked.
func plainSteps(l []api.Step, level int) int {
	if level > looked {
		return 0
	}
	n := len(l)
	for _, x := range l {
		for _, p := range x.T {
			n += plainSteps(p, level+1)
		}
		for _, b := range x.By {
			n += plainSteps(b.T, level+1)
		}
	}
	return n
}

// plainNest: how deep l is, however deep that is.
func plainNest(l []api.Step) int {
	below := 0
	for _, x := range l {
		for _, p := range x.T {
			below = max(below, plainNest(p))
		}
		for _, b := range x.By {
			if b.Kind == api.ByChain || len(b.T) > 0 {
				below = max(below, plainNest(b.T))
			}
		}
	}
	return below + 1
}

func every[T any](l []T, is func(T) bool) bool {
	return !slices.ContainsFunc(l, func(x T) bool { return !is(x) })
}

// alike: are they the same, field by field, as far down as there is anything?
func alike(a, b []api.Step) bool {
	return slices.EqualFunc(a, b, alikeSteps)
}

func alikeSteps(x, y api.Step) bool {
	by := func(b, c api.By) bool {
		return b.Kind == c.Kind && b.Key == c.Key && alike(b.T, c.T) && b.Desc == c.Desc
	}
	return x.Op == y.Op && slices.Equal(x.S, y.S) && slices.Equal(x.N, y.N) && value.Same(x.V, y.V) && alikePreds(x.P, y.P) &&
		slices.EqualFunc(x.T, y.T, alike) && slices.EqualFunc(x.By, y.By, by) && slices.Equal(x.As, y.As)
}

func alikePreds(p, q api.Pred) bool {
	return p.Kind == q.Kind && slices.EqualFunc(p.V, q.V, value.Same) && slices.EqualFunc(p.P, q.P, alikePreds)
}

// show: l as far as a message has room for it; it may have no end.
func show(l []api.Step) string {
	s := showAt(l, 1)
	if len(s) > 200 {
		return s[:100] + " .. " + s[len(s)-100:]
	}
	return s
}

func showAt(l []api.Step, level int) string {
	if level > looked+2 {
		return ".."
	}
	var s strings.Builder
	for i, x := range l {
		if i == 3 {
			fmt.Fprintf(&s, " .. %d", len(l))
			break
		}
		fmt.Fprintf(&s, " %d%s%.60q%v", x.Op, plan.Name(x.Op), x.S[:min(len(x.S), 3)], x.N[:min(len(x.N), 3)])
		if x.V.Kind != 0 || x.P.Kind != 0 {
			fmt.Fprintf(&s, " V %d P %d", x.V.Kind, x.P.Kind)
		}
		for _, p := range x.T[:min(len(x.T), 3)] {
			s.WriteString(" (" + showAt(p, level+1) + ")")
		}
		for _, b := range x.By[:min(len(x.By), 3)] {
			fmt.Fprintf(&s, " by %d %.20q %v (%s)", b.Kind, b.Key, b.Desc, showAt(b.T, level+1))
		}
		fmt.Fprintf(&s, " T %d By %d As %.60q", len(x.T), len(x.By), x.As[:min(len(x.As), 3)])
	}
	return s.String()
}

func checkCheck(t *testing.T, l []api.Step, want api.Errno) {
	t.Helper()
	if e := plan.Check(l); e != want {
		t.Errorf("Check(%s) = %d; want %d", show(l), e, want)
	}
}

// checkStep: such a step may be, alone, behind others, and in plans.
func checkStep(t *testing.T, x api.Step) {
	t.Helper()
	for _, l := range [][]api.Step{steps(x), steps(x, x), steps(bare(api.OpID), x, bare(api.OpID))} {
		checkCheck(t, l, api.OK)
		for _, f := range arounds() {
			checkCheck(t, f(l), api.OK)
		}
	}
}

// checkNoStep: such a step may not be, wherever it stands.
func checkNoStep(t *testing.T, x api.Step) {
	t.Helper()
	for _, l := range [][]api.Step{steps(x), steps(x, bare(api.OpID)), steps(bare(api.OpID), bare(api.OpID), x)} {
		checkCheck(t, l, api.ErrArg)
		for _, f := range arounds() {
			checkCheck(t, f(l), api.ErrArg)
		}
	}
}

func checkSize(t *testing.T, l []api.Step, nest, steps int) {
	t.Helper()
	if n := plan.Nest(l); n != nest {
		t.Errorf("Nest(%s) = %d; want %d", show(l), n, nest)
	}
	if n := plan.Steps(l); n != steps {
		t.Errorf("Steps(%s) = %d; want %d", show(l), n, steps)
	}
}

func checkSame(t *testing.T, a, b []api.Step, want bool) {
	t.Helper()
	if plan.Same(a, b) != want || plan.Same(b, a) != want {
		t.Errorf("Same(%s, %s) is not %v", show(a), show(b), want)
	}
}

func checkCopy(t *testing.T, l, want []api.Step) {
	t.Helper()
	if got := plan.Copy(l); !alike(got, want) {
		t.Errorf("Copy(%s) = %s; want %s", show(l), show(got), show(want))
	}
}
