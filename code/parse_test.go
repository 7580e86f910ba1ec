package code_test

import (
	"reflect"
	"slices"
	"strings"
	"testing"

	"wayfarer/api"
	"wayfarer/code"
	"wayfarer/value"
)

func TestParse(t *testing.T) {
	for _, x := range all() {
		checkParse(t, x.s, x.v)
		checkParse(t, "["+x.s+", "+x.s+"]", list(x.v, x.v))
		checkParse(t, "path[1, "+x.s+", 1]", path(num(1), x.v, num(1)))
		checkParse(t, "{"+x.s+": "+x.s+"}", dict(x.v, x.v))
	}
}

func TestParseOfWhatIsNoText(t *testing.T) {
	for _, s := range []string{
		"", " ", "\n", "x", ",", ":", "?", "null", "nil", "\x00", "\xff",
		// Truths.
		"True", "TRUE", "t", "tru", "truee", "false ", "fals", "truefalse", "true,", "1true",
		// Digits that are not those of their number, or of one that has no room.
		"-", "--1", "+1", "-0", "00", "01", "-01", "007", "1-", "1-2", "1 ", " 1", "1.0", "1e3", "0x1", "1_0", "٣",
		"9223372036854775808", "-9223372036854775809", "18446744073709551616", "99999999999999999999999999",
		// Texts.
		"'", "''' ", "'''", "'a", "a'", "'a''", "'a'b", "''''", "' ' ", " ''", `"a"`, "`a`", "'a\"",
		`'\`, `'\'`, `'\\`, `'\\\'`, `'\n'`, `'\t'`, `'\"'`, `'\0'`, `'\ '`, `'\X0a'`, `'\u000a'`,
		`'\x`, `'\x'`, `'\x0'`, `'\x0`, `'\x0a`, `'\x0A'`, `'\xC3'`, `'\xFF'`, `'\x0g'`, `'\xg0'`, `'\x 0'`, `'\x0 '`, `'\x-1'`, `'\x/0'`, `'\x:0'`, "'\\x`0'",
		`'\x20'`, `'\x27'`, `'\x41'`, `'\x5c'`, `'\x61'`, `'\x7e'`,
		"'\n'", "'\x00'", "'\x1f'", "'\x7f'", "'\x80'", "'\xff'", "'é'", "'\\x0\x00'",
		// Vertices and edges.
		"v", "v[", "v[]", "v[1", "v1", "v]", "v[1]]", "v[1] ", " v[1]", "v [1]", "v[ 1]", "v[1 ]", "v[-1]", "v[-0]", "v[01]", "v[+1]", "v[1, 2]", "v['a']", "v[a]", "v(1)", "V[1]", "v{1}", "v[9223372036854775808]", "v[v[1]]",
		"e", "e[", "e[]", "e[1", "e1", "e[1]]", "e [1]", "e[-1]", "e[-9223372036854775808]", "e[01]", "E[1]", "e[9223372036854775808]", "w[1]", "ve[1]", "edge[1]",
		// Lists and paths.
		"[", "]", "[[", "[]]", "[[]", "[ ]", " []", "[] ", "[]\n", "[1", "[1,", "[1, ", "[1, ]", "[1,]", "[, 1]", "[,]", "[1,2]", "[1,  2]", "[1 , 2]", "[1 2]", "[1, 2 ]", "[ 1, 2]", "[1, 2,]", "[1, , 2]", "[1; 2]", "[1,\n2]", "[1,\t2]", "[1}", "[1: 2]", "[1, 2: 3]", "[x]", "[1, x]", "[01]", "['a]", "(1)", "[1)", "[][]", "[], []", "1, 2",
		"path", "pat[]", "path[", "path]", "path [1]", "path[ ]", "path[1", "path[1,2]", "path[1, ]", "path[1]]", " path[]", "path[] ", "Path[]", "path()", "path{}", "paths[]", "path[path]", "vpath[]", "pathpath[]",
		// Maps.
		"{", "}", "{{", "{}}", "{{}}", "{ }", " {}", "{} ", "{1", "{1}", "{1:", "{1: ", "{1: }", "{1:2}", "{1:  2}", "{1 : 2}", "{1 2}", "{1, 2}", "{1: 2", "{1: 2,", "{1: 2, ", "{1: 2, }", "{1: 2,}", "{, 1: 2}", "{: 2}", "{1: 2,3: 4}", "{1: 2 , 3: 4}", "{1: 2,  3: 4}", "{1: 2, 3}", "{1: 2, 3: }", "{1: 2: 3}", "{ 1: 2}", "{1: 2 }", "{1: 2]", "{1: 2}}", "{k: 1}", "{1: k}", "{x: 1}", "{1=2}", "map{}", "{1: 01}", "{01: 1}", "{'a: 1}",
	} {
		checkNoParse(t, s)
		checkNoParse(t, "{1: "+s+"}")
		checkNoParse(t, "{1: 2, 3: "+s+"}")
	}
}

func TestParseOfKeys(t *testing.T) {
	rising := []string{"false", "true", "-5", "0", "7", "''", "'a'", "'ab'", "'b'", "v[0]", "v[1]", "e[0]", "[]", "[1]", "[1, 2]", "[2]", "{}", "{1: 1}", "{1: 2}", "path[]", "path[1]"}
	for i, a := range rising {
		for j, b := range rising {
			s := "{" + a + ": 1, " + b + ": 2}"
			if i < j {
				if !checkAny(t, s) {
					t.Error("keys that rise:", s)
				}
				continue
			}
			checkNoParse(t, s)
			checkNoParse(t, "["+s+"]")
			checkNoParse(t, "{"+s+": 1}")
			checkNoParse(t, "{1: "+s+"}")
		}
	}
	checkNoParse(t, "{1: 1, 3: 1, 2: 1}")
	checkNoParse(t, "{1: 1, 2: 1, 1: 1}")
	checkNoParse(t, "{1: 1, 2: 1, 2: 1}")
	// Values need not rise, and may come twice.
	checkParse(t, "{1: 3, 2: 1, 3: 1}", dict(num(1), num(3), num(2), num(1), num(3), num(1)))
}

func TestParseLimits(t *testing.T) {
	for _, c := range []string{"a", `\'`, `\\`, `\xff`} {
		most := strings.Repeat(c, api.MaxText)
		if !checkAny(t, "'"+most+"'") {
			t.Error("the longest text of", c)
		}
		checkNoParse(t, "'"+most+c+"'")
		checkNoParse(t, "'"+most)
		checkNoParse(t, "["+"'"+most+"a']")
	}
	items := strings.Repeat("0, ", api.MaxItems-1)
	for _, begin := range []string{"[", "path["} {
		if !checkAny(t, begin+items+"0]") {
			t.Error("the longest row of", begin)
		}
		checkNoParse(t, begin+"0, "+items+"0]")
		checkNoParse(t, begin+items+"0, ]")
		checkNoParse(t, "[1, "+begin+"0, "+items+"0]]")
	}
	most, _ := code.Print(dict(twice(numbers(api.MaxItems))...))
	checkParse(t, most, dict(twice(numbers(api.MaxItems))...))
	checkNoParse(t, strings.TrimSuffix(most, "}")+", 1000: 0}")
}

func TestParseDepth(t *testing.T) {
	for _, x := range [][2]string{{"[", "]"}, {"path[", "]"}, {"[1, ", ", 1]"}, {"{0: ", "}"}, {"{", ": 0}"}, {"{false: 2, ", ": 3}"}} {
		for _, last := range []string{"true", "[]", "path[]", "{}"} {
			for depth := 1; depth <= api.MaxDepth+3; depth++ {
				s := strings.Repeat(x[0], depth-1) + last + strings.Repeat(x[1], depth-1)
				if got := checkAny(t, s); got != (depth <= api.MaxDepth) {
					t.Error("depth", depth, got, s)
				}
			}
		}
		// What is far too deep ends nevertheless.
		checkNoParse(t, strings.Repeat(x[0], 1<<20))
		checkNoParse(t, strings.Repeat(x[0], 1<<18)+"1"+strings.Repeat(x[1], 1<<18))
	}
}

func TestParseOfWhatIsFarTooLong(t *testing.T) {
	for _, s := range []string{"1", "-1", "'", "[", "v[1", "['a', ", "{1: 1, ", "true"} {
		checkNoParse(t, s+strings.Repeat("0", 1<<20))
		checkNoParse(t, "["+strings.Repeat(s+", ", 1<<16))
	}
	checkNoParse(t, "["+strings.Repeat("0, ", 1<<20)+"0]")
	checkNoParse(t, "'"+strings.Repeat("a", 1<<20)+"'")
}

// Every text that differs from a value's in little is none, or another
// value's, and then that value has it.
func TestNoOtherTextIsRead(t *testing.T) {
	bytes := []string{" ", "\n", "\x00", "0", "1", "-", "'", `\`, "x", "a", "v", "[", "]", "{", "}", ",", ":", ", ", "\xff"}
	for _, x := range all() {
		for i := range x.s {
			checkAny(t, x.s[:i])
			checkAny(t, x.s[i:])
			checkAny(t, x.s[:i]+x.s[i+1:])
			checkAny(t, x.s[:i+1]+x.s[i:])
			for _, c := range bytes {
				checkAny(t, x.s[:i]+c+x.s[i:])
				checkAny(t, x.s[:i]+c+x.s[i+1:])
			}
		}
		for _, c := range []string{" ", "\n", "\x00", "-", "'", "x", "]", "}", ",", ", ", ": ", "true", "[]", ", 1", "v[1]"} {
			checkNoParse(t, x.s+c)
			checkNoParse(t, "{1: "+x.s+c+"}")
		}
		checkNoParse(t, " "+x.s)
		checkNoParse(t, "\n"+x.s)
	}
}

// All texts of at most six of these bytes: those that are read are just those
// that values have.
func TestParseOfAllShortTexts(t *testing.T) {
	const most, bytes = 6, "1'v[]{},: "
	want := map[string]bool{}
	for _, v := range small(bytes, most) {
		s, e := code.Print(v)
		if e != api.OK {
			t.Fatal(e)
		}
		want[s] = len(s) <= most
	}
	for _, s := range texts(bytes, most) {
		if got := checkAny(t, s); got != want[s] {
			t.Error(s, "is read:", got)
		}
	}
}

// texts: all that are made of at most so many of these bytes.
func texts(bytes string, most int) []string {
	all, from := []string{""}, 0
	for range most {
		longest := all[from:]
		from = len(all)
		for _, s := range longest {
			for i := range len(bytes) {
				all = append(all, s+bytes[i:i+1])
			}
		}
	}
	return all
}

// small: all values whose texts are made of at most so many of these bytes,
// and some more.
func small(bytes string, most int) []api.Value {
	l := vals(list(), dict(), list(num(1), num(1)), dict(num(1), num(1)))
	for n := 1; n <= 111111; n = n*10 + 1 {
		l = append(l, num(n), vertex(n))
	}
	for _, s := range texts(strings.ReplaceAll(bytes, "'", ""), most-2) {
		l = append(l, word(s))
	}
	flat := slices.Clone(l)
	for _, v := range flat {
		l = append(l, list(v), list(list(v)))
	}
	return l
}

func TestThereAndBack(t *testing.T) {
	var l []api.Value
	for _, x := range all() {
		l = append(l, x.v)
	}
	for _, n := range []int{1, 9, 10, 99, 1 << 31, 1 << 62, api.MaxInt - 1} {
		l = append(l, num(n), num(-n), vertex(n), edge(n))
	}
	for a := range 256 {
		for _, b := range []byte{0, '\'', '\\', 'x', 'a', '0', 255} {
			l = append(l, word(string([]byte{byte(a), b})), word(string([]byte{b, byte(a)})))
		}
	}
	for _, row := range slices.Collect(slices.Chunk(l, api.MaxItems)) {
		m, e := value.Dict(twice(row)...)
		if e != api.OK {
			t.Fatal(e)
		}
		l = append(l, m, list(row...), path(row...), within(list(row...), 4, path))
	}
	for _, v := range l {
		s, e := code.Print(v)
		if e != api.OK {
			t.Fatal(e)
		}
		checkParse(t, s, v)
	}
}

func TestParseIsItsOwners(t *testing.T) {
	const s = "{[1]: [[1], [1]], path[2]: {[3]: [3]}}"
	want := dict(list(num(1)), list(list(num(1)), list(num(1))), path(num(2)), dict(list(num(3)), list(num(3))))
	v, _ := code.Parse(s)
	other, _ := code.Parse(s)
	scribble(v)
	checkSame(t, other, want)
	v, _ = code.Parse(s)
	scribble(v.L[0])
	scribble(v.M[0].L[0])
	checkSame(t, v.M[0].L[1], list(num(1)))
	checkSame(t, v.L[1], path(num(2)))
	checkSame(t, v.M[1], want.M[1])
}

func checkSame(t *testing.T, got, want api.Value) {
	t.Helper()
	if !reflect.DeepEqual(got, want) {
		t.Error("got", got, "want", want)
	}
}

// scribble writes into all rows of v, and into the room behind them.
func scribble(v api.Value) {
	for _, row := range [][]api.Value{v.L, v.M} {
		for _, x := range row {
			scribble(x)
		}
		row = row[:cap(row)]
		for i := range row {
			row[i] = api.Value{Kind: 77, S: "written over"}
		}
	}
}

// What is handed in stays as it was.
func TestNothingIsChanged(t *testing.T) {
	for _, x := range all() {
		before := value.Copy(x.v)
		code.Print(x.v)
		code.Rows(x.v, list(x.v), x.v)
		checkSame(t, value.Copy(x.v), before)
	}
}

func FuzzParse(f *testing.F) {
	for _, x := range all() {
		f.Add(x.s)
	}
	f.Fuzz(func(t *testing.T, s string) {
		checkAny(t, s)
		if s := code.Quote(s); len(s) <= api.MaxText {
			checkAny(t, s)
		}
	})
}
