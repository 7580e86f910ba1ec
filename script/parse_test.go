package script_test

import (
	"slices"
	"strings"
	"testing"

	"wayfarer/api"
	"wayfarer/script"
	"wayfarer/value"
)

// The chapter's example.
func TestExample(t *testing.T) {
	const s = "vertex 1 person\nvertex 2 person\nedge 7 knows 1 2\nset vertex 1 name 'ann'"
	checkGraph(t, s, api.Graph{
		V: things(vertex(1, "person", prop("name", word("ann"))), vertex(2, "person")),
		E: things(edge(7, "knows", 1, 2)),
	})
	checkWrong(t, strings.Replace(s, "1 2", "1 9", 1), 3, api.ErrNone)
}

func TestEachForm(t *testing.T) {
	one := vertex(1, "a")
	for _, x := range []struct {
		s    string
		want api.Graph
	}{
		{"vertex 1 a", api.Graph{V: things(one)}},
		{"vertex 1 a\nedge 2 b 1 1", api.Graph{V: things(one), E: things(edge(2, "b", 1, 1))}},
		{"vertex 1 a\nset vertex 1 k 3", api.Graph{V: things(vertex(1, "a", prop("k", num(3))))}},
		{"vertex 1 a\nedge 2 b 1 1\nset edge 2 k 3", api.Graph{V: things(one), E: things(edge(2, "b", 1, 1, prop("k", num(3))))}},
		// Words that begin lines are names as well.
		{"vertex 1 vertex\nset vertex 1 set 3", api.Graph{V: things(vertex(1, "vertex", prop("set", num(3))))}},
		{"vertex 1 edge\nset vertex 1 edge 3", api.Graph{V: things(vertex(1, "edge", prop("edge", num(3))))}},
		{"vertex 1 set\nset vertex 1 vertex 3", api.Graph{V: things(vertex(1, "set", prop("vertex", num(3))))}},
	} {
		checkGraph(t, x.s, x.want)
		checkGraph(t, x.s+"\n", x.want)
		checkGraph(t, x.s+"\n\n\n", x.want)
		checkPlainly(t, x.s)
	}
}

func TestLinesThatSayNothing(t *testing.T) {
	two := api.Graph{V: things(vertex(1, "a"), vertex(2, "a"))}
	for _, s := range []string{"", "\n", "\n\n\n", "#", "#\n", "##", "# x\n# y", "#vertex 9 a", "# vertex 9 a\n", "#\x00\xff\r\t'", "\n#\n\n#", "#" + letters(5000)} {
		checkGraph(t, s, api.Graph{})
		checkGraph(t, s+"\nvertex 1 a\n"+s+"\nvertex 2 a\n"+s, two)
		// They count as lines all the same.
		checkWrong(t, s+"\nvertex 1 a\n"+s+"\nx", 3+2*strings.Count(s, "\n")+1, api.ErrText)
	}
	checkGraph(t, "vertex 1 a\nset vertex 1 k '# no'", api.Graph{V: things(vertex(1, "a", prop("k", word("# no"))))})
	for _, s := range []string{" ", " #", " # x", "\t", "\r", "\r\n", "\x00", "\ufeff", "\v#", "'#'", "//", ";"} {
		checkWrong(t, s, 1, api.ErrText)
		checkWrong(t, "vertex 1 a\n\n"+s+"\nx", 3, api.ErrText)
	}
}

func TestNoBytesAtAll(t *testing.T) {
	for _, b := range [][]byte{nil, {}, make([]byte, 0, 9)} {
		g, n, e := script.Parse(b)
		if len(g.V) != 0 || len(g.E) != 0 || n != 0 || e != api.OK {
			t.Error(show(g), n, e)
		}
	}
}

// Things come by rising IDs, in whatever order they are laid.
func TestThingsRise(t *testing.T) {
	ids := []string{"0", "2", "9", "10", "11", greatest}
	want := api.Graph{
		V: things(vertex(0, "a"), vertex(2, "a"), vertex(9, "a"), vertex(10, "a"), vertex(11, "a"), vertex(api.MaxInt, "a")),
		E: things(edge(0, "b", 0, 9), edge(2, "b", 2, 9), edge(9, "b", 9, 9), edge(10, "b", 10, 9), edge(11, "b", 11, 9), edge(api.MaxInt, "b", api.MaxInt, 9)),
	}
	for turn := range ids {
		for _, back := range []bool{false, true} {
			l := slices.Concat(ids[turn:], ids[:turn])
			if back {
				slices.Reverse(l)
			}
			var v, e []string
			for _, id := range l {
				v, e = append(v, "vertex "+id+" a"), append(e, "edge "+id+" b "+id+" 9")
			}
			checkGraph(t, lines(v...)+lines(e...), want)
		}
	}
}

func TestPropertiesRise(t *testing.T) {
	// Byte by byte: capitals, the line, small letters; a beginning first.
	keys := []string{"A", "A0", "B", "_", "_0", "a", "a0", "aa", "b"}
	var want []api.Prop
	for _, key := range keys {
		want = append(want, prop(key, word(key)))
	}
	for turn := range keys {
		s := "vertex 1 a\nvertex 2 a\nedge 3 b 1 1\n"
		for _, key := range slices.Concat(keys[turn:], keys[:turn]) {
			s += "set edge 3 " + key + " '" + key + "'\nset vertex 1 " + key + " '" + key + "'\n"
		}
		checkGraph(t, s, api.Graph{V: things(vertex(1, "a", want...), vertex(2, "a")), E: things(edge(3, "b", 1, 1, want...))})
	}
}

func TestAPropertySetTwice(t *testing.T) {
	s := "vertex 1 a\nset vertex 1 k 3\nset vertex 1 j true\nset vertex 1 k 'x'\n"
	checkGraph(t, s, api.Graph{V: things(vertex(1, "a", prop("j", yes), prop("k", word("x"))))})
	checkGraph(t, s+"set vertex 1 k 'x'\n", api.Graph{V: things(vertex(1, "a", prop("j", yes), prop("k", word("x"))))})
	checkGraph(t, s+"set vertex 1 k [1]\nset vertex 1 k []\n", api.Graph{V: things(vertex(1, "a", prop("j", yes), prop("k", list())))})
	// Of one thing alone, be it of the same ID.
	checkGraph(t, s+"vertex 2 a\nset vertex 2 k 3\nedge 1 b 1 1\nset edge 1 k 4\n", api.Graph{
		V: things(vertex(1, "a", prop("j", yes), prop("k", word("x"))), vertex(2, "a", prop("k", num(3)))),
		E: things(edge(1, "b", 1, 1, prop("k", num(4)))),
	})
}

func TestValues(t *testing.T) {
	long := letters(api.MaxText)
	many := strings.TrimSuffix(strings.Repeat("0, ", api.MaxItems), ", ")
	for s, v := range map[string]api.Value{
		"true": yes, "false": no,
		"0": num(0), "7": num(7), "-12": num(-12), greatest: num(api.MaxInt), "-9223372036854775808": num(api.MinInt),
		"''": word(""), "'ann'": word("ann"), "' '": word(" "), "'  '": word("  "), "'ann b'": word("ann b"), "' a  b '": word(" a  b "),
		`'it\'s'`: word("it's"), `'\''`: word("'"), `'\\'`: word(`\`), `'\x0a'`: word("\n"), `'a\x0ab \x0a'`: word("a\nb \n"),
		`'\\x0a'`: word(`\x0a`), `'\xff\x00\x7f\x1f'`: word("\xff\x00\x7f\x1f"), "'#'": word("#"), "'vertex 3 a'": word("vertex 3 a"),
		"'" + long + "'": word(long),
		"[]":             list(), "[1]": list(num(1)), "[1, 'x y', true]": list(num(1), word("x y"), yes),
		`['\x0a', '\'', ' ']`: list(word("\n"), word("'"), word(" ")), "[2, 1, 1]": list(num(2), num(1), num(1)),
		"[" + many + "]": value.Row(slices.Repeat([]api.Value{num(0)}, api.MaxItems)...),
	} {
		want := api.Graph{
			V: things(vertex(1, "a", prop("k", v))),
			E: things(edge(2, "b", 1, 1, prop("k", v))),
		}
		first := lines("vertex 1 a", "edge 2 b 1 1")
		checkGraph(t, first+"set edge 2 k "+s+"\nset vertex 1 k "+s, want)
		checkGraph(t, first+"set vertex 1 k "+s+"\nset edge 2 k "+s+"\n", want)
	}
}

func TestEdgesOfNumbers(t *testing.T) {
	checkGraph(t, "vertex 0 a\nvertex "+greatest+" b\nedge 0 c 0 "+greatest+"\nedge "+greatest+" d "+greatest+" 0", api.Graph{
		V: things(vertex(0, "a"), vertex(api.MaxInt, "b")),
		E: things(edge(0, "c", 0, api.MaxInt), edge(api.MaxInt, "d", api.MaxInt, 0)),
	})
	checkGraph(t, "vertex 3 a\nedge 3 b 3 3\nset vertex 3 k 1\nset edge 3 k 2", api.Graph{
		V: things(vertex(3, "a", prop("k", num(1)))),
		E: things(edge(3, "b", 3, 3, prop("k", num(2)))),
	})
	long := letters(api.MaxName)
	checkGraph(t, "vertex 3 "+long+"\nedge 3 "+long+" 3 3\nset vertex 3 "+long+" 1\nset edge 3 "+long+" 2", api.Graph{
		V: things(vertex(3, long, prop(long, num(1)))),
		E: things(edge(3, long, 3, 3, prop(long, num(2)))),
	})
}

// sample: a script with some of all.
func sample() []string {
	return []string{
		"# people", "", "vertex 20 person", "vertex 1 person", "set vertex 20 name 'ann b'", "edge 7 knows 1 20",
		"set edge 7 since [1, true, 'x']", "vertex 3 dog", "edge 0 owns 20 3", "edge 8 knows 20 20", "set vertex 1 age -3",
		"#", "set vertex 1 age 30", `set vertex 3 says 'it\'s\x0a'`, "set edge 0 since []", "set edge 0 old true",
	}
}

// A script that is cut behind any line is one, with its last line feed and
// without.
func TestCutBehindAnyLine(t *testing.T) {
	l := sample()
	for n := range len(l) + 1 {
		checkTaken(t, lines(l[:n]...))
		checkTaken(t, strings.TrimSuffix(lines(l[:n]...), "\n"))
		checkPlainly(t, lines(l[:n]...))
		checkPlainly(t, strings.Join(l[:n], "\n"))
	}
}

// A line more changes nothing of what the lines ahead of it laid, but the
// thing of which it speaks.
func TestALineMore(t *testing.T) {
	l := sample()
	for n := range l {
		was, is := checkTaken(t, lines(l[:n]...)), checkTaken(t, lines(l[:n+1]...))
		changed := 0
		for _, x := range [][2][]api.Thing{{was.V, is.V}, {was.E, is.E}} {
			for _, y := range x[1] {
				if !slices.ContainsFunc(x[0], func(z api.Thing) bool { return alikeThing(y, z) }) {
					changed++
				}
			}
		}
		want := 1
		if l[n] == "" || l[n][0] == '#' {
			want = 0
		}
		if changed != want {
			t.Errorf("line %q changed %d things", l[n], changed)
		}
	}
}
