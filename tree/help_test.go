package tree_test

import (
	"fmt"
	"slices"
	"strings"
	"testing"

	"wayfarer/api"
	"wayfarer/tree"
	"wayfarer/value"
)

// looked: so many chains within one another are looked at: l, and MaxNest of
// those within it.
const looked = 11

// Short names for what the tests are made of.
var (
	num  = value.Number
	text = value.Word
	flag = value.Truth
)

func list(l ...api.Value) api.Value { return api.Value{Kind: api.List, L: l} }

func vals(l ...api.Value) []api.Value { return l }

func numbers(n int) []api.Value {
	var l []api.Value
	for i := range n {
		l = append(l, num(i))
	}
	return l
}

func of(kind int, l ...api.Value) api.Pred { return api.Pred{Kind: kind, V: l} }

func made(kind int, l ...api.Pred) api.Pred { return api.Pred{Kind: kind, P: l} }

func not(p api.Pred) api.Pred { return made(api.Not, p) }

func eq(n int) api.Pred { return of(api.Eq, num(n)) }

// The four kinds of arguments.
func val(v api.Value) api.Arg { return api.Arg{Kind: api.ArgValue, V: v} }

func asked(p api.Pred) api.Arg { return api.Arg{Kind: api.ArgPred, P: p} }

func sub(l ...api.Call) api.Arg { return api.Arg{Kind: api.ArgChain, C: l} }

func word(s string) api.Arg { return api.Arg{Kind: api.ArgWord, S: s} }

func call(name string, l ...api.Arg) api.Call { return api.Call{Name: name, Args: l} }

func chain(l ...api.Call) []api.Call { return l }

// one: a chain of one call with these arguments.
func one(l ...api.Arg) []api.Call { return chain(call("a", l...)) }

// many: a chain of so many calls.
func many(n int) []api.Call { return slices.Repeat(one(), n) }

func letters(n int) string { return strings.Repeat("a", n) }

// within: v in so many lists, one around the other.
func within(v api.Value, lists int) api.Value {
	for range lists {
		v = list(v)
	}
	return v
}

// nots: so many Nots around p.
func nots(p api.Pred, times int) api.Pred {
	for range times {
		p = not(p)
	}
	return p
}

// arounds: the ways in which a chain is around another one.
func arounds() []func([]api.Call) []api.Call {
	return []func([]api.Call) []api.Call{
		func(l []api.Call) []api.Call { return one(sub(l...)) },
		func(l []api.Call) []api.Call { return one(word("x"), sub(l...), val(num(1))) },
		func(l []api.Call) []api.Call { return one(sub(one()...), sub(l...)) },
		func(l []api.Call) []api.Call { return chain(call("b"), call("c", sub(l...)), call("d", word("x"))) },
	}
}

// around: f, so many times, around l.
func around(f func([]api.Call) []api.Call, l []api.Call, times int) []api.Call {
	for range times {
		l = f(l)
	}
	return l
}

// tower: so many chains within one another, each of one call.
func tower(height int) []api.Call {
	return around(arounds()[0], one(), height-1)
}

// inItself: a chain of so many calls, each of which has the chain itself as
// each of so many arguments.
func inItself(calls, args int) []api.Call {
	l := make([]api.Call, calls)
	for i := range l {
		l[i] = call("a", slices.Repeat([]api.Arg{sub(l...)}, args)...)
	}
	return l
}

// endlessList: a list that lies within itself, so many times side by side.
func endlessList(wide int) api.Value {
	row := make([]api.Value, wide)
	for i := range row {
		row[i] = list(row...)
	}
	return row[0]
}

// endlessPred: a predicate that is in itself, so many times side by side.
func endlessPred(kind, wide int) api.Pred {
	row := make([]api.Pred, wide)
	for i := range row {
		row[i] = made(kind, row...)
	}
	return row[0]
}

// values: those that may be written, each with its text.
func values() map[string]api.Value {
	return map[string]api.Value{
		"true":                           flag(true),
		"false":                          flag(false),
		"0":                              num(0),
		"7":                              num(7),
		"-3":                             num(-3),
		"9223372036854775807":            num(api.MaxInt),
		"-9223372036854775808":           num(api.MinInt),
		"''":                             text(""),
		"'a'":                            text("a"),
		"'a b, c'":                       text("a b, c"),
		"'true'":                         text("true"),
		"'-3'":                           text("-3"),
		"'\\''":                          text("'"),
		"'\\\\'":                         text("\\"),
		"'\\\\\\''":                      text("\\'"),
		"'it\\'s \\\\n'":                 text("it's \\n"),
		"' !\"~'":                        text(" !\"~"),
		"'\x7f\x80\xff'":                 text("\x7f\x80\xff"),
		"'é→'":                           text("é→"),
		"'[1, 2]'":                       text("[1, 2]"),
		"[]":                             list(),
		"[1]":                            list(num(1)),
		"[1, 'a', true, -3]":             list(num(1), text("a"), flag(true), num(-3)),
		"[[]]":                           list(list()),
		"[[1, [2]], [], ['\\'']]":        list(list(num(1), list(num(2))), list(), list(text("'"))),
		"'" + letters(api.MaxText) + "'": text(letters(api.MaxText)),
		strings.Repeat("[", api.MaxDepth) + strings.Repeat("]", api.MaxDepth): within(list(), api.MaxDepth-1),
		"[" + strings.Repeat("0, ", api.MaxItems-1) + "0]":                    list(slices.Repeat(vals(num(0)), api.MaxItems)...),
	}
}

// unwritten: values that may not be written.
func unwritten() []api.Value {
	l := []api.Value{
		{Kind: api.Vertex}, {Kind: api.Vertex, N: 3}, {Kind: api.Edge}, {Kind: api.Edge, N: 1},
		{Kind: api.Map}, {Kind: api.Map, L: vals(num(1)), M: vals(num(2))},
		{Kind: api.Path}, {Kind: api.Path, L: vals(num(1))},
	}
	for c := range byte(32) {
		l = append(l, text(string([]byte{c})), text("a"+string([]byte{c})+"b"))
	}
	return l
}

// noValues: what is no value at all.
func noValues() []api.Value {
	return []api.Value{
		{}, {Kind: -1}, {Kind: 9}, {Kind: api.MinInt}, {Kind: api.MaxInt}, {N: 1}, {S: "a"}, {L: vals(num(1))}, {M: vals(num(1))},
		{Kind: api.Bool, N: 2}, {Kind: api.Bool, N: -1}, {Kind: api.Int, S: "a"}, {Kind: api.Int, L: vals(num(1))}, {Kind: api.Int, M: vals(num(1))},
		{Kind: api.Text, N: 1}, {Kind: api.List, N: 1}, {Kind: api.List, S: "a"}, {Kind: api.List, M: vals(num(1))},
		{Kind: api.Vertex, N: -1}, {Kind: api.Map, L: vals(num(1))},
		text(letters(api.MaxText + 1)), list(numbers(api.MaxItems + 1)...), within(list(), api.MaxDepth),
		endlessList(1), endlessList(api.MaxItems),
	}
}

// predicates: one of each kind, and of many shapes, each with its text.
func predicates() map[string]api.Pred {
	return map[string]api.Pred{
		"eq(1)":                             eq(1),
		"neq('a')":                          of(api.Neq, text("a")),
		"lt(-1)":                            of(api.Lt, num(-1)),
		"lte([1, []])":                      of(api.Lte, list(num(1), list())),
		"gt(30)":                            of(api.Gt, num(30)),
		"gte(false)":                        of(api.Gte, flag(false)),
		"between(1, 2)":                     of(api.Between, num(1), num(2)),
		"inside('a', 'b')":                  of(api.Inside, text("a"), text("b")),
		"outside(2, 1)":                     of(api.Outside, num(2), num(1)),
		"within()":                          of(api.Within),
		"within(1)":                         of(api.Within, num(1)),
		"within(1, '\\\\', [true])":         of(api.Within, num(1), text("\\"), list(flag(true))),
		"without()":                         of(api.Without),
		"without(3, 3, 3)":                  of(api.Without, num(3), num(3), num(3)),
		"not(eq(1))":                        not(eq(1)),
		"not(not(within()))":                not(not(of(api.Within))),
		"and(eq(1), eq(2))":                 made(api.And, eq(1), eq(2)),
		"and(eq(1), not(eq(2)), eq(3))":     made(api.And, eq(1), not(eq(2)), eq(3)),
		"or(eq(1), and(eq(2), gt('x')))":    made(api.Or, eq(1), made(api.And, eq(2), of(api.Gt, text("x")))),
		"or(or(eq(1), eq(2)), not(eq('')))": made(api.Or, made(api.Or, eq(1), eq(2)), not(of(api.Eq, text("")))),
		strings.Repeat("not(", api.MaxDepth-1) + "eq(1" + strings.Repeat(")", api.MaxDepth): nots(eq(1), api.MaxDepth-1),
	}
}

// noPreds: what is no predicate, though all its values may be written.
func noPreds() []api.Pred {
	return []api.Pred{
		{}, {V: vals(num(1))}, {P: []api.Pred{eq(1)}}, of(-1, num(1)), of(15, num(1)), made(15, eq(1), eq(2)), of(api.MinInt), of(api.MaxInt),
		of(api.Eq), of(api.Eq, num(1), num(2)), of(api.Between, num(1)), of(api.Not, num(1)), made(api.Eq, eq(1)),
		{Kind: api.Eq, V: vals(num(1)), P: []api.Pred{eq(1)}}, {Kind: api.Not, V: vals(num(1)), P: []api.Pred{eq(1)}},
		made(api.Not), made(api.Not, eq(1), eq(2)), made(api.And), made(api.And, eq(1)), made(api.Or, eq(1)), not(api.Pred{}),
		of(api.Within, numbers(api.MaxItems+1)...), made(api.Or, slices.Repeat([]api.Pred{eq(1)}, api.MaxItems+1)...),
		nots(eq(1), api.MaxDepth), endlessPred(api.Not, 1), endlessPred(api.And, 2), endlessPred(api.Or, api.MaxItems),
	}
}

// taken: the words that no word may be.
func taken() []string {
	return strings.Fields("true false __ eq neq lt lte gt gte between inside outside within without not and or")
}

// goodNames: what a call's name may be, and a word, too.
func goodNames() []string {
	return []string{
		"a", "Z", "_", "___", "_1", "a9", "asc", "desc", "V", "g", "True", "FALSE", "nots", "no", "eq_", "withins", "_and", "_or_",
		letters(api.MaxName),
	}
}

// noNames: what is no name at all.
func noNames() []string {
	return []string{
		"", " ", "9", "1a", "-", "a-b", "a b", " a", "a ", "a.b", "a'", "é", "aé", "\x00", "a\x80", "@", "[", "`", "{", "/", ":",
		letters(api.MaxName + 1), letters(5000),
	}
}

// show: l as far as a message has room for it; it may have no end.
func show(l []api.Call) string {
	s := showAt(l, 1)
	if len(s) > 160 {
		return s[:80] + " .. " + s[len(s)-80:]
	}
	return s
}

func showAt(l []api.Call, level int) string {
	if level > api.MaxNest+3 {
		return ".."
	}
	var s strings.Builder
	for i, c := range l {
		if i == 3 {
			s.WriteString(" ..")
			break
		}
		fmt.Fprintf(&s, ".%.50q", c.Name)
		for i, a := range c.Args {
			if i == 3 {
				s.WriteString(" ..")
				break
			}
			fmt.Fprintf(&s, " {%d%s%s%s%s}", a.Kind, showValue(a.V), showPred(a.P), showText(a.S), showInner(a.C, level+1))
		}
	}
	return s.String()
}

func showInner(l []api.Call, level int) string {
	if len(l) == 0 {
		return ""
	}
	return " (" + showAt(l, level) + ")"
}

func showValue(v api.Value) string {
	if value.Same(v, api.Value{}) {
		return ""
	}
	return fmt.Sprintf(" (%d %d %.20q L %d M %d)", v.Kind, v.N, v.S, len(v.L), len(v.M))
}

func showPred(p api.Pred) string {
	if p.Kind == 0 && len(p.V) == 0 && len(p.P) == 0 {
		return ""
	}
	return fmt.Sprintf(" <%d V %d P %d>", p.Kind, len(p.V), len(p.P))
}

func showText(s string) string {
	if s == "" {
		return ""
	}
	return fmt.Sprintf(" %.50q", s)
}

// alike: are they the same, field by field, as far down as there is anything?
func alike(a, b []api.Call) bool {
	return slices.EqualFunc(a, b, func(x, y api.Call) bool {
		return x.Name == y.Name && slices.EqualFunc(x.Args, y.Args, alikeArgs)
	})
}

func alikeArgs(x, y api.Arg) bool {
	return x.Kind == y.Kind && x.S == y.S && value.Same(x.V, y.V) && alikePreds(x.P, y.P) && alike(x.C, y.C)
}

func alikePreds(p, q api.Pred) bool {
	return p.Kind == q.Kind && slices.EqualFunc(p.V, q.V, value.Same) && slices.EqualFunc(p.P, q.P, alikePreds)
}

func checkCheck(t *testing.T, l []api.Call, want api.Errno) {
	t.Helper()
	if e := tree.Check(l); e != want {
		t.Errorf("Check(%s) = %d; want %d", show(l), e, want)
	}
	s, e := tree.Print(l)
	if e != want || e != api.OK && s != "" {
		t.Errorf("Print(%s) = %.200q, %d; want %d", show(l), s, e, want)
	}
}

// checkWrong: Check and Print refuse l, and what l is in.
func checkWrong(t *testing.T, l []api.Call) {
	t.Helper()
	checkCheck(t, l, api.ErrArg)
	for _, f := range arounds() {
		checkCheck(t, f(l), api.ErrArg)
	}
}

// checkWrongArg: a call may not have that argument, wherever it stands.
func checkWrongArg(t *testing.T, a api.Arg) {
	t.Helper()
	checkWrong(t, one(a))
	checkCheck(t, one(word("x"), a), api.ErrArg)
	checkCheck(t, one(a, word("x")), api.ErrArg)
	checkCheck(t, chain(call("a"), call("b", word("x")), call("c", a)), api.ErrArg)
}

func checkPrint(t *testing.T, l []api.Call, want string) {
	t.Helper()
	checkCheck(t, l, api.OK)
	if s, _ := tree.Print(l); s != want {
		t.Errorf("Print(%s) = %.300q; want %.300q", show(l), s, want)
	}
}

func checkSame(t *testing.T, a, b []api.Call, want bool) {
	t.Helper()
	if tree.Same(a, b) != want || tree.Same(b, a) != want {
		t.Errorf("Same(%s, %s) is not %v", show(a), show(b), want)
	}
}

func checkCopy(t *testing.T, l, want []api.Call) {
	t.Helper()
	if got := tree.Copy(l); !alike(got, want) {
		t.Errorf("Copy(%s) = %s; want %s", show(l), show(got), show(want))
	}
}

func checkSize(t *testing.T, l []api.Call, nest, calls int) {
	t.Helper()
	if n := tree.Nest(l); n != nest {
		t.Errorf("Nest(%s) = %d; want %d", show(l), n, nest)
	}
	if n := tree.Calls(l); n != calls {
		t.Errorf("Calls(%s) = %d; want %d", show(l), n, calls)
	}
}
