package script_test

import (
	"fmt"
	"regexp"
	"slices"
	"strings"
	"testing"

	"wayfarer/api"
	"wayfarer/code"
	"wayfarer/graph"
	"wayfarer/script"
	"wayfarer/value"
)

// Short names for what the tests are made of.
var (
	num  = value.Number
	word = value.Word
	yes  = value.Truth(true)
	no   = value.Truth(false)
)

const greatest = "9223372036854775807"

func list(l ...api.Value) api.Value { return api.Value{Kind: api.List, L: l} }

func prop(key string, v api.Value) api.Prop { return api.Prop{Key: key, V: v} }

func vertex(id int, label string, l ...api.Prop) api.Thing {
	return api.Thing{ID: id, Label: label, Props: l}
}

func edge(id int, label string, out, in int, l ...api.Prop) api.Thing {
	return api.Thing{ID: id, Label: label, Out: out, In: in, Props: l}
}

func things(l ...api.Thing) []api.Thing { return l }

func letters(n int) string { return strings.Repeat("a", n) }

// lines: each with a line feed behind.
func lines(l ...string) string {
	if len(l) == 0 {
		return ""
	}
	return strings.Join(l, "\n") + "\n"
}

// numbered: so many lines made of that form, with 0 and on for %d.
func numbered(n int, form string) string {
	var b strings.Builder
	for i := range n {
		b.WriteString(strings.ReplaceAll(form, "%d", fmt.Sprint(i)) + "\n")
	}
	return b.String()
}

// number, name: what the document takes for these, told by other means.
var (
	number = regexp.MustCompile(`\A(0|[1-9][0-9]*)\z`)
	name   = regexp.MustCompile(`\A[a-zA-Z_][a-zA-Z0-9_]{0,39}\z`)
)

func readNumber(s string) (int, bool) {
	if !number.MatchString(s) || len(s) > len(greatest) || len(s) == len(greatest) && s > greatest {
		return 0, false
	}
	n := 0
	for _, r := range s {
		n = n*10 + int(r-'0')
	}
	return n, true
}

func readPlain(s string) (api.Value, bool) {
	v, e := code.Parse(s)
	return v, e == api.OK && graph.Plain(v)
}

// hasAll tells whether there is a vertex of each of these IDs.
func hasAll(l []api.Thing, ids ...int) bool {
	for _, id := range ids {
		if _, ok := graph.At(l, id); !ok {
			return false
		}
	}
	return true
}

// plainly: what the document asks of Parse, in the plainest way: after each
// line there is a graph.
func plainly(s string) (api.Graph, int, api.Errno) {
	if len(s) > api.MaxScript {
		return api.Graph{}, 0, api.ErrLong
	}
	var g api.Graph
	for i, line := range strings.Split(s, "\n") {
		if line == "" || line[0] == '#' {
			continue
		}
		l := strings.Split(line, " ")
		var e api.Errno
		switch {
		case l[0] == "vertex":
			e = plainThing(g, &g.V, api.MaxVertices, l, 3)
		case l[0] == "edge":
			e = plainThing(g, &g.E, api.MaxEdges, l, 5)
		case l[0] == "set" && len(l) > 1 && l[1] == "vertex":
			e = plainSet(g.V, l)
		case l[0] == "set" && len(l) > 1 && l[1] == "edge":
			e = plainSet(g.E, l)
		default:
			e = api.ErrText
		}
		if e != api.OK {
			return api.Graph{}, i + 1, e
		}
	}
	return g, 0, api.OK
}

// plainThing does what a line of so many words says, that lays a thing.
func plainThing(g api.Graph, to *[]api.Thing, most int, l []string, words int) api.Errno {
	if len(l) != words {
		return api.ErrText
	}
	t := api.Thing{Label: l[2]}
	var ends []int
	for i, s := range l {
		n, ok := readNumber(s)
		if i != 0 && i != 2 && !ok || i == 2 && !name.MatchString(s) {
			return api.ErrText
		}
		if i > 2 {
			ends = append(ends, n)
		}
	}
	t.ID, _ = readNumber(l[1])
	if words == 5 {
		t.Out, t.In = ends[0], ends[1]
	}
	switch {
	case hasAll(*to, t.ID):
		return api.ErrTwice
	case !hasAll(g.V, ends...):
		return api.ErrNone
	case len(*to) >= most:
		return api.ErrLong
	}
	at := 0
	for at < len(*to) && (*to)[at].ID < t.ID {
		at++
	}
	*to = slices.Insert(slices.Clone(*to), at, t)
	return api.OK
}

// plainSet does what a line says that sets a property.
func plainSet(to []api.Thing, l []string) api.Errno {
	if len(l) < 5 {
		return api.ErrText
	}
	id, ok := readNumber(l[2])
	v, plain := readPlain(strings.Join(l[4:], " "))
	if !ok || !plain || !name.MatchString(l[3]) {
		return api.ErrText
	}
	for i := range to {
		if to[i].ID == id {
			t, e := graph.With(to[i], l[3], v)
			if e == api.OK {
				to[i] = t
			}
			return e
		}
	}
	return api.ErrNone
}

// alikeThing: all fields are the same; a row that is nil and one that is empty
// are the same, too.
func alikeThing(a, b api.Thing) bool {
	sameProp := func(p, q api.Prop) bool { return p.Key == q.Key && value.Same(p.V, q.V) }
	return a.ID == b.ID && a.Label == b.Label && a.Out == b.Out && a.In == b.In && slices.EqualFunc(a.Props, b.Props, sameProp)
}

func alike(a, b api.Graph) bool {
	return slices.EqualFunc(a.V, b.V, alikeThing) && slices.EqualFunc(a.E, b.E, alikeThing)
}

func show(g api.Graph) string {
	return fmt.Sprintf("%.600v", g)
}

// checkGraph: s is a script of that graph.
func checkGraph(t *testing.T, s string, want api.Graph) {
	t.Helper()
	g, n, e := script.Parse([]byte(s))
	if n != 0 || e != api.OK || !alike(g, want) {
		t.Errorf("Parse(%.300q) = %s, %d, %d; want %s", s, show(g), n, e, show(want))
	}
	if graph.Check(g) != api.OK {
		t.Errorf("Parse(%.300q) is no graph: %s", s, show(g))
	}
}

// checkTaken: s is a script, of whatever graph.
func checkTaken(t *testing.T, s string) api.Graph {
	t.Helper()
	g, n, e := script.Parse([]byte(s))
	if n != 0 || e != api.OK || graph.Check(g) != api.OK {
		t.Errorf("Parse(%.300q) tells line %d, %d, and graph %d", s, n, e, graph.Check(g))
	}
	return g
}

// checkWrong: line n of s is wrong, for that reason.
func checkWrong(t *testing.T, s string, n int, e api.Errno) {
	t.Helper()
	g, m, f := script.Parse([]byte(s))
	if m != n || f != e {
		t.Errorf("Parse(%.300q) tells line %d, %d; want %d, %d", s, m, f, n, e)
	}
	if g.V != nil || g.E != nil {
		t.Errorf("Parse(%.300q) has a graph beside an error: %s", s, show(g))
	}
}

// checkPlainly: Parse tells what the plainest way does.
func checkPlainly(t *testing.T, s string) {
	t.Helper()
	want, n, e := plainly(s)
	if e != api.OK {
		checkWrong(t, s, n, e)
		return
	}
	checkGraph(t, s, want)
}

// checkPrint: that graph's script is s, and back.
func checkPrint(t *testing.T, g api.Graph, want string) {
	t.Helper()
	s, e := script.Print(g)
	if s != want || e != api.OK {
		t.Errorf("Print(%s) = %.300q, %d; want %.300q", show(g), s, e, want)
	}
	checkGraph(t, want, g)
}
