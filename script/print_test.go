package script_test

import (
	"strings"
	"testing"

	"wayfarer/api"
	"wayfarer/graph"
	"wayfarer/script"
	"wayfarer/value"
)

func TestPrint(t *testing.T) {
	one := vertex(1, "a")
	for _, x := range []struct {
		g    api.Graph
		want string
	}{
		{api.Graph{}, ""},
		{api.Graph{V: []api.Thing{}, E: []api.Thing{}}, ""},
		{api.Graph{V: things(vertex(0, "x"))}, "vertex 0 x\n"},
		{api.Graph{V: things(vertex(0, "x", prop("k", yes)), vertex(9, "y"), vertex(10, "z"))}, "vertex 0 x\nset vertex 0 k true\nvertex 9 y\nvertex 10 z\n"},
		{api.Graph{V: things(one), E: things(edge(0, "b", 1, 1))}, "vertex 1 a\nedge 0 b 1 1\n"},
		{
			api.Graph{V: things(one, vertex(2, "a")), E: things(edge(3, "b", 1, 2), edge(4, "c", 2, 1))},
			"vertex 1 a\nvertex 2 a\nedge 3 b 1 2\nedge 4 c 2 1\n",
		},
		{
			api.Graph{
				V: things(vertex(1, "person", prop("age", num(29)), prop("name", word("ann b"))), vertex(2, "person", prop("x", list()))),
				E: things(edge(7, "knows", 1, 2, prop("v", word("it's\n")), prop("w", list(num(1), yes, word("#")))), edge(8, "knows", 2, 2)),
			},
			"vertex 1 person\nset vertex 1 age 29\nset vertex 1 name 'ann b'\nvertex 2 person\nset vertex 2 x []\n" +
				"edge 7 knows 1 2\nset edge 7 v 'it\\'s\\x0a'\nset edge 7 w [1, true, '#']\nedge 8 knows 2 2\n",
		},
		{
			api.Graph{V: things(vertex(api.MaxInt, "a")), E: things(edge(api.MaxInt, "b", api.MaxInt, api.MaxInt, prop("k", num(api.MinInt))))},
			"vertex " + greatest + " a\nedge " + greatest + " b " + greatest + " " + greatest + "\nset edge " + greatest + " k -9223372036854775808\n",
		},
	} {
		checkPrint(t, x.g, x.want)
	}
}

// What is read is written in one way, and that is read as it was.
func TestThereAndBack(t *testing.T) {
	l := sample()
	for n := range len(l) + 1 {
		g := checkTaken(t, lines(l[:n]...))
		s, e := script.Print(g)
		if e != api.OK {
			t.Error(e)
		}
		checkPrint(t, g, s)
	}
}

func TestPrintOfEachPlainValue(t *testing.T) {
	texts := []string{"", " ", "a b", " a  b ", "a\n\n#\nb", "'", `\`, "\n", "\r\n", "\x00", "\xff", "é", "#", "set vertex 1 k 5", letters(api.MaxText), strings.Repeat("\n", api.MaxText)}
	for c := range 256 {
		texts = append(texts, string([]byte{byte(c)}))
	}
	values := []api.Value{yes, no, num(0), num(-1), num(api.MaxInt), num(api.MinInt), list()}
	for _, s := range texts {
		values = append(values, word(s), list(word(s)), list(num(1), word(s), no))
	}
	for _, v := range values {
		g := api.Graph{V: things(vertex(1, "a", prop("k", v))), E: things(edge(2, "b", 1, 1, prop("j", v), prop("k", v)))}
		s, e := script.Print(g)
		if e != api.OK || strings.Count(s, "\n") != 5 {
			t.Errorf("Print of %s: %.300q, %d", show(g), s, e)
		}
		checkGraph(t, s, g)
	}
}

// A graph's script may be longer than a script that is read.
func TestPrintOfMuch(t *testing.T) {
	var g api.Graph
	for i := range api.MaxVertices {
		g.V = append(g.V, vertex(i, "a", prop("k", word(letters(api.MaxText))), prop("l", word(letters(api.MaxText))), prop("m", word(letters(api.MaxText)))))
	}
	s, e := script.Print(g)
	if e != api.OK || len(s) <= api.MaxScript || strings.Count(s, "\n") != 4*api.MaxVertices {
		t.Error(len(s), e)
	}
	checkWrong(t, s, 0, api.ErrLong)
}

func TestPrintOfWhatMayNotBe(t *testing.T) {
	one := vertex(1, "a")
	var many []api.Thing
	for i := range api.MaxEdges + 1 {
		many = append(many, edge(i, "e", 1, 1))
	}
	var manyProps []api.Prop
	for i := range api.MaxProps + 1 {
		manyProps = append(manyProps, prop("k"+strings.Repeat("a", i), num(i)))
	}
	row := make([]api.Value, api.MaxItems)
	for i := range row {
		row[i] = list(row...)
		row[i].L = row
	}
	for what, g := range map[string]api.Graph{
		"a vertex of no name":          {V: make([]api.Thing, 1)},
		"a vertex below 0":             {V: things(vertex(-1, "a"))},
		"a vertex twice":               {V: things(one, one)},
		"vertices that fall":           {V: things(vertex(2, "a"), one)},
		"a vertex that goes out":       {V: things(edge(1, "a", 1, 0))},
		"a vertex with a line feed":    {V: things(vertex(1, "a\nvertex 2 a"))},
		"too many vertices":            {V: make([]api.Thing, api.MaxVertices+1)},
		"an edge of no name":           {V: things(one), E: things(edge(1, "a b", 1, 1))},
		"an edge twice":                {V: things(one), E: things(edge(1, "a", 1, 1), edge(1, "a", 1, 1))},
		"an edge out of no vertex":     {V: things(one), E: things(edge(1, "a", 2, 1))},
		"an edge in to no vertex":      {V: things(one), E: things(edge(1, "a", 1, 2))},
		"edges alone":                  {E: things(edge(1, "a", 1, 1))},
		"too many edges":               {V: things(one), E: many},
		"too many properties":          {V: things(vertex(1, "a", manyProps...))},
		"keys that fall":               {V: things(vertex(1, "a", prop("b", num(1)), prop("a", num(1))))},
		"a key twice":                  {V: things(vertex(1, "a", prop("a", num(1)), prop("a", num(1))))},
		"a key of no name":             {V: things(vertex(1, "a", prop("", num(1))))},
		"no value":                     {V: things(vertex(1, "a", prop("k", api.Value{})))},
		"a value that is not plain":    {V: things(one), E: things(edge(1, "a", 1, 1, prop("k", list(list()))))},
		"a value that lies in itself":  {V: things(vertex(1, "a", prop("k", row[0])))},
		"a vertex as a value":          {V: things(vertex(1, "a", prop("k", api.Value{Kind: api.Vertex, N: 1})))},
		"a text that is too long":      {V: things(vertex(1, "a", prop("k", word(letters(api.MaxText+1)))))},
		"a good one, and one that not": {V: things(one, vertex(2, "2x"))},
	} {
		if graph.Check(g) != api.ErrGraph {
			t.Errorf("%s may be", what)
		}
		if s, e := script.Print(g); s != "" || e != api.ErrGraph {
			t.Errorf("Print of %s = %.300q, %d", what, s, e)
		}
	}
}

func TestPrintChangesNothing(t *testing.T) {
	l := value.Row(num(2), num(1))
	g := api.Graph{V: things(vertex(1, "a", prop("j", l), prop("k", l))), E: things(edge(2, "b", 1, 1, prop("k", l)))}
	want := graph.Copy(g)
	s, _ := script.Print(g)
	if again, e := script.Print(g); again != s || e != api.OK || !alike(g, want) {
		t.Errorf("Print changed what was handed in: %q, %q, %s", s, again, show(g))
	}
	g.E[0].Props[0].Key = "2x"
	want = graph.Copy(g)
	if _, e := script.Print(g); e != api.ErrGraph || !alike(g, want) {
		t.Errorf("Print changed what it refused: %s", show(g))
	}
}
