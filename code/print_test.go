package code_test

import (
	"slices"
	"strings"
	"testing"

	"wayfarer/api"
	"wayfarer/code"
)

func TestPrint(t *testing.T) {
	for _, x := range all() {
		checkPrint(t, x.v, x.s)
		checkPrint(t, list(x.v, x.v), "["+x.s+", "+x.s+"]")
		checkPrint(t, path(num(1), x.v, num(1)), "path[1, "+x.s+", 1]")
		checkPrint(t, dict(x.v, x.v), "{"+x.s+": "+x.s+"}")
	}
}

// A list that is nil and one that is empty are the same thing.
func TestPrintOfEmptyRows(t *testing.T) {
	none := []api.Value{}
	checkPrint(t, api.Value{Kind: api.List, L: none, M: none}, "[]")
	checkPrint(t, api.Value{Kind: api.Path, L: none, M: none}, "path[]")
	checkPrint(t, api.Value{Kind: api.Map, L: none, M: none}, "{}")
	checkPrint(t, api.Value{Kind: api.Int, N: 4, L: none, M: none}, "4")
}

func TestPrintLimits(t *testing.T) {
	checkPrint(t, word(letters(api.MaxText)), "'"+letters(api.MaxText)+"'")
	checkPrint(t, word(strings.Repeat("\xff", api.MaxText)), "'"+strings.Repeat(`\xff`, api.MaxText)+"'")
	zeros := slices.Repeat(vals(num(0)), api.MaxItems)
	inner := strings.Repeat("0, ", api.MaxItems-1) + "0"
	checkPrint(t, list(zeros...), "["+inner+"]")
	checkPrint(t, path(zeros...), "path["+inner+"]")
	checkNoPrint(t, list(append(zeros, num(0))...))
	s, e := code.Print(dict(twice(numbers(api.MaxItems))...))
	if e != api.OK || strings.Count(s, ": ") != api.MaxItems || !strings.HasSuffix(s, ", 999: 999}") {
		t.Error("the greatest map:", len(s), e)
	}
	deep := api.MaxDepth - 1
	checkPrint(t, within(num(1), deep, list), strings.Repeat("[", deep)+"1"+strings.Repeat("]", deep))
	checkPrint(t, within(dict(), deep, path), strings.Repeat("path[", deep)+"{}"+strings.Repeat("]", deep))
	checkNoPrint(t, within(num(1), deep+1, list))
	checkNoPrint(t, within(dict(), deep+1, path))
}

func TestPrintOfWhatIsNoValue(t *testing.T) {
	for _, v := range odd() {
		checkNoPrint(t, v)
		checkNoPrint(t, list(v))
		checkNoPrint(t, list(num(1), v, num(1)))
		checkNoPrint(t, path(num(1), v))
		checkNoPrint(t, dict(v, num(1)))
		checkNoPrint(t, dict(num(1), v))
	}
}

func checkRows(t *testing.T, want string, l ...api.Value) {
	t.Helper()
	if s, e := code.Rows(l...); s != want || e != api.OK {
		t.Errorf("Rows of %d tells %.60q, %d; want %.60q", len(l), s, e, want)
	}
}

func TestRows(t *testing.T) {
	checkRows(t, "")
	checkRows(t, "", []api.Value{}...)
	checkRows(t, "1\n'x'\n", num(1), word("x"))
	checkRows(t, "'\\x0a'\n", word("\n"))
	checkRows(t, "2\n1\n2\n[]\n", num(2), num(1), num(2), list())
	var l []api.Value
	want := ""
	for _, x := range all() {
		checkRows(t, x.s+"\n", x.v)
		l, want = append(l, x.v), want+x.s+"\n"
	}
	checkRows(t, want, l...)
	// Rows may be as many as they are.
	checkRows(t, strings.Repeat("true\n", 3*api.MaxItems), slices.Repeat(vals(yes), 3*api.MaxItems)...)
}

func TestRowsOfWhatIsNoValue(t *testing.T) {
	for _, v := range odd() {
		for _, l := range [][]api.Value{{v}, {v, num(1)}, {num(1), v}, {num(1), v, num(1)}, {v, v}, {num(1), list(v)}} {
			if s, e := code.Rows(l...); s != "" || e != api.ErrArg {
				t.Errorf("Rows with what is no value (kind %d, %d) tells %.60q, %d", v.Kind, v.N, s, e)
			}
		}
	}
}
