package script_test

import (
	"fmt"
	"strings"
	"testing"

	"wayfarer/api"
	"wayfarer/script"
)

func TestMaxScript(t *testing.T) {
	const last = "vertex 1 a\nset vertex 1 k 'b'"
	filled := func(n int) string { return "#" + strings.Repeat("x", n-len(last)-2) + "\n" + last }
	want := api.Graph{V: things(vertex(1, "a", prop("k", word("b"))))}
	checkGraph(t, filled(api.MaxScript-1), want)
	checkGraph(t, filled(api.MaxScript), want)
	checkGraph(t, filled(api.MaxScript-1)+"\n", want)
	checkWrong(t, filled(api.MaxScript)+"\n", 0, api.ErrLong)
	checkWrong(t, filled(api.MaxScript+1), 0, api.ErrLong)
	checkWrong(t, filled(2*api.MaxScript), 0, api.ErrLong)
	// Bytes that say nothing count, too.
	checkGraph(t, strings.Repeat("\n", api.MaxScript), api.Graph{})
	checkWrong(t, strings.Repeat("\n", api.MaxScript+1), 0, api.ErrLong)
	checkWrong(t, "#"+strings.Repeat("x", api.MaxScript), 0, api.ErrLong)
	// No line of what is too long is told.
	for _, line := range []string{"x\n", "vertex 1 a\nvertex 1 a\n", "edge 1 a 1 1\n"} {
		s := line + strings.Repeat("\n", api.MaxScript-len(line))
		checkPlainly(t, s)
		checkWrong(t, s+"\n", 0, api.ErrLong)
	}
	// The last one of as many lines as there may be.
	checkWrong(t, strings.Repeat("\n", api.MaxScript-1)+"x", api.MaxScript, api.ErrText)
}

func TestMaxVertices(t *testing.T) {
	all := numbered(api.MaxVertices, "vertex %d a")
	if g := checkTaken(t, all); len(g.V) != api.MaxVertices {
		t.Error(len(g.V), "vertices")
	}
	const over = api.MaxVertices + 1
	for line, e := range map[string]api.Errno{
		"vertex 500 a": api.ErrLong, "vertex " + greatest + " a": api.ErrLong,
		"vertex 0 a": api.ErrTwice, "vertex 499 a": api.ErrTwice, "vertex 500 2x": api.ErrText, "vertex -1 a": api.ErrText, "vertex 0 2x": api.ErrText,
		"edge 0 b 0 500": api.ErrNone, "set vertex 500 k 5": api.ErrNone,
	} {
		checkWrong(t, all+line, over, e)
		checkWrong(t, all+line+"\nx", over, e)
	}
	// With as many vertices as may be, all else goes on.
	g := checkTaken(t, all+"edge 0 b 0 499\nset vertex 499 k 5\nset edge 0 k 5\n")
	if len(g.V) != api.MaxVertices || len(g.E) != 1 || len(g.V[499].Props) != 1 || len(g.E[0].Props) != 1 {
		t.Error(show(g))
	}
}

func TestMaxEdges(t *testing.T) {
	all := "vertex 0 a\nvertex 1 a\n" + numbered(api.MaxEdges, "edge %d b 0 1")
	if g := checkTaken(t, all); len(g.E) != api.MaxEdges || len(g.V) != 2 {
		t.Error(len(g.E), "edges,", len(g.V), "vertices")
	}
	const over = api.MaxEdges + 3
	for line, e := range map[string]api.Errno{
		"edge 2000 b 0 1": api.ErrLong, "edge " + greatest + " b 1 1": api.ErrLong,
		"edge 0 b 0 1": api.ErrTwice, "edge 1999 b 0 9": api.ErrTwice, "edge 2000 b 9 1": api.ErrNone, "edge 2000 b 0 9": api.ErrNone,
		"edge 2000 2x 0 1": api.ErrText, "edge 0 b 0 -9": api.ErrText, "set edge 2000 k 5": api.ErrNone,
	} {
		checkWrong(t, all+line, over, e)
		checkWrong(t, all+line+"\nx", over, e)
	}
	g := checkTaken(t, all+"vertex 2 a\nset edge 1999 k 5\nset vertex 2 k 5\n")
	if len(g.V) != 3 || len(g.E) != api.MaxEdges || len(g.E[1999].Props) != 1 || len(g.V[2].Props) != 1 {
		t.Error(len(g.E), "edges,", len(g.V), "vertices")
	}
}

func TestMaxProps(t *testing.T) {
	first := lines("vertex 0 a", "vertex 1 a", "edge 0 b 0 1", "edge 1 b 0 1")
	for _, kind := range []string{"vertex", "edge"} {
		set := "set " + kind + " 1 "
		all := first + numbered(api.MaxProps, set+"k%d %d")
		checkPlainly(t, all)
		over := strings.Count(all, "\n") + 1
		for line, e := range map[string]api.Errno{
			set + "k30 5": api.ErrLong, set + "k 5": api.ErrLong, set + "a 5": api.ErrLong, set + "z 'x'": api.ErrLong, set + "K0 5": api.ErrLong,
			set + "2x 5": api.ErrText, set + "k30 {}": api.ErrText, set + "k30": api.ErrText, set + "k30 x": api.ErrText, set + "k3 x": api.ErrText,
			"set " + kind + " 9 k30 5": api.ErrNone,
		} {
			checkWrong(t, all+line, over, e)
			checkWrong(t, all+line+"\nx", over, e)
		}
		// A key that is there is set, all the same, and other things have room.
		for i := range api.MaxProps {
			checkPlainly(t, all+fmt.Sprintf("%sk%d [1, 'anew']\n", set, i))
		}
		checkPlainly(t, all+"set "+kind+" 0 z 5\n")
		checkWrong(t, all+set+"k3 'anew'\n"+set+"z 5", over+1, api.ErrLong)
		checkWrong(t, all+numbered(api.MaxProps, set+"k%d true")+set+"z 5", over+api.MaxProps, api.ErrLong)
	}
	// Each kind has room of its own.
	checkPlainly(t, first+numbered(api.MaxProps, "set edge 1 k%d %d")+numbered(api.MaxProps, "set vertex 1 k%d 'x'"))
}

// What is set again and again does not make a long script slow, however wide
// the properties beside it are.
func TestManySetsOfAWideThing(t *testing.T) {
	wide := "[" + strings.TrimSuffix(strings.Repeat("1, ", api.MaxItems), ", ") + "]"
	s := "vertex 1 a\n" + numbered(api.MaxProps-1, "set vertex 1 k%d "+wide)
	const line = "set vertex 1 z 0\n"
	s += strings.Repeat(line, (api.MaxScript-len(s))/len(line))
	g := checkTaken(t, s)
	if len(g.V) != 1 || len(g.V[0].Props) != api.MaxProps || len(g.V[0].Props[3].V.L) != api.MaxItems {
		t.Error("not all was set")
	}
}

// As much as may be: vertices, edges, and properties of each.
func TestAsMuchAsMayBe(t *testing.T) {
	var b strings.Builder
	b.WriteString(numbered(api.MaxVertices, "vertex %d a"))
	b.WriteString(numbered(api.MaxEdges, "edge %d b 0 499"))
	for i := range api.MaxProps {
		b.WriteString(numbered(api.MaxVertices, fmt.Sprintf("set vertex %%d k%d 1", i)))
		// What is left behind this half is enough for the vertices' properties.
		if b.Len() < api.MaxScript/2 {
			b.WriteString(numbered(api.MaxEdges, fmt.Sprintf("set edge %%d k%d 1", i)))
		}
	}
	g := checkTaken(t, b.String())
	if len(g.V) != api.MaxVertices || len(g.E) != api.MaxEdges || len(g.V[499].Props) != api.MaxProps || len(g.E[0].Props) < 5 {
		t.Error("not all is there")
	}
	s, e := script.Print(g)
	if e != api.OK {
		t.Error(e)
	}
	checkGraph(t, s, g)
}
