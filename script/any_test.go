package script_test

import (
	"slices"
	"strings"
	"testing"

	"wayfarer/api"
	"wayfarer/graph"
	"wayfarer/script"
)

// Chosen lines in every order, up to three, and four of which the first lays a
// vertex: each script is told as in the plainest way.
func TestAllShortScripts(t *testing.T) {
	few := []string{
		"vertex 1 a", "vertex 0 b", "edge 1 a 1 0", "edge 0 b 0 0", "set vertex 1 k 1", "set vertex 1 j 'x y'", "set vertex 1 k [true]",
		"set edge 1 k 2", "set edge 0 _ ''", "# x", "", "vertex -1 a", "edge 1 a 1", "set vertex 0 2x 1",
	}
	all := []string{""}
	longest := all
	for n := range 4 {
		var longer []string
		for _, s := range longest {
			for _, line := range few {
				longer = append(longer, s+line+"\n")
			}
		}
		if n < 3 {
			all = append(all, longer...)
		} else {
			all = append(all, slices.DeleteFunc(longer, func(s string) bool { return !strings.HasPrefix(s, few[0]) })...)
		}
		longest = longer
	}
	for _, s := range all {
		checkPlainly(t, s)
		checkPlainly(t, strings.TrimSuffix(s, "\n"))
		if t.Failed() {
			return
		}
	}
}

// One place of a script is changed: cut, left out, doubled, put in, replaced.
func TestOnePlaceIsChanged(t *testing.T) {
	s := lines(sample()...)
	for i := range len(s) {
		changed := []string{s[:i], s[i:], s[:i] + s[i+1:], s[:i+1] + s[i:]}
		for _, c := range []string{" ", "\n", "\t", "0", "-", "9", "a", "_", "'", "[", "]", "#", ",", "\\", "\x00", "\xff", "\r"} {
			changed = append(changed, s[:i]+c+s[i:], s[:i]+c+s[i+1:])
		}
		for _, x := range changed {
			checkPlainly(t, x)
		}
		if t.Failed() {
			return
		}
	}
}

// Whatever bytes come in: the call ends, and what it tells holds.
func TestAnyBytes(t *testing.T) {
	var all []string
	for c := range 256 {
		b := string([]byte{byte(c)})
		all = append(all, b, b+"\n", strings.Repeat(b, 3000), "vertex 1 "+b, "vertex "+b+" a", "set vertex 1 k "+b, b+"vertex 1 a", "vertex 1 a"+b)
	}
	// Numbers that go round, always the same ones.
	seed := uint32(1)
	pieces := []string{"vertex", "edge", "set", " ", " ", " ", "\n", "1", "2", "30", "a", "k", "'x'", "[", "]", "true", "#", "-", "\xff"}
	for range 3000 {
		var b strings.Builder
		for range 40 {
			seed = seed*1664525 + 1013904223
			b.WriteString(pieces[seed>>16%uint32(len(pieces))])
		}
		all = append(all, b.String())
	}
	for _, s := range all {
		checkPlainly(t, s)
		if t.Failed() {
			return
		}
	}
	for _, s := range []string{strings.Repeat(" ", api.MaxScript), strings.Repeat("vertex ", api.MaxScript/7), "set vertex 1 k " + strings.Repeat("[", 1<<19), "vertex " + strings.Repeat("9", 1<<19) + " a", "vertex 1 " + letters(1<<19)} {
		checkWrong(t, s, 1, api.ErrText)
	}
}

// scribble writes over all that g has, and the room behind it.
func scribble(g api.Graph) {
	for _, l := range [][]api.Thing{g.V, g.E} {
		for _, x := range l {
			for _, p := range x.Props {
				for row, i := p.V.L[:cap(p.V.L)], 0; i < len(row); i++ {
					row[i] = api.Value{Kind: 77, S: "written over"}
				}
			}
			for row, i := x.Props[:cap(x.Props)], 0; i < len(row); i++ {
				row[i] = prop("written over", api.Value{Kind: 77})
			}
		}
		for row, i := l[:cap(l)], 0; i < len(row); i++ {
			row[i] = edge(-77, "written over", -77, -77)
		}
	}
}

// What comes out is new memory, and what came in is neither changed nor kept.
func TestAnswersAreTheirOwners(t *testing.T) {
	s := lines(slices.Concat(sample(), []string{"set vertex 1 l [1, 2, 3]", "set vertex 1 m [1, 2, 3]", "set edge 8 l [1, 2, 3]", "vertex 4 a"})...)
	want, _, _ := plainly(s)
	b := append(make([]byte, 0, 2*len(s)), s...)
	copy(b[len(b):cap(b)], "behind")
	g, _, _ := script.Parse(b)
	other, _, _ := script.Parse(b)
	if string(b) != s || string(b[len(s):len(s)+6]) != "behind" {
		t.Error("Parse changed what was handed in")
	}
	for i := range b[:cap(b)] {
		b[:cap(b)][i] = '#'
	}
	if !alike(g, want) || !alike(other, want) {
		t.Error("Parse kept what was handed in")
	}
	scribble(g)
	if again := checkTaken(t, s); !alike(other, want) || !alike(again, want) {
		t.Error("two answers share a list")
	}
	checkListsApart(t, s)
	if text, e := script.Print(other); e != api.OK || !alike(other, want) {
		t.Errorf("Print changed what was handed in, or tells %d: %.300q", e, text)
	}
}

// checkListsApart: no two lists of one answer share any: what is written over,
// or laid behind one of them, is nowhere in another one.
func checkListsApart(t *testing.T, s string) {
	t.Helper()
	want := checkTaken(t, s)
	for i := range want.V {
		g := checkTaken(t, s)
		scribble(api.Graph{V: g.V[i : i+1 : i+1]})
		g.V[i] = graph.Copy(want).V[i]
		if !alike(g, want) {
			t.Errorf("vertex %d shares a list with another thing", want.V[i].ID)
		}
		for j, p := range want.V[i].Props {
			g := checkTaken(t, s)
			row := g.V[i].Props[j].V.L
			for k := range row[:cap(row)] {
				row[:cap(row)][k] = num(77)
			}
			g.V[i].Props[j] = p
			if !alike(g, want) {
				t.Errorf("property %q shares a list with another one", p.Key)
			}
		}
	}
}

// A call knows nothing of those ahead of it.
func TestNothingIsKept(t *testing.T) {
	checkWrong(t, "vertex 1 a\nedge 2 b 1 1\nx", 3, api.ErrText)
	checkWrong(t, "edge 3 b 1 1", 1, api.ErrNone)
	checkGraph(t, "vertex 1 c\nedge 2 d 1 1", api.Graph{V: things(vertex(1, "c")), E: things(edge(2, "d", 1, 1))})
	checkWrong(t, "set edge 2 k 1", 1, api.ErrNone)
	checkGraph(t, "", api.Graph{})
}
