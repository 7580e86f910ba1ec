package script_test

import (
	"strings"
	"testing"

	"wayfarer/api"
)

// base: four lines, ahead of lines that say more.
var base = lines("vertex 1 a", "vertex 2 a", "edge 3 b 1 2", "set vertex 1 k 5")

const (
	ofBase = 4
	noText = api.ErrText
)

// checkLine: a line that is wrong behind others, with others behind it, too.
func checkLine(t *testing.T, line string, e api.Errno) {
	t.Helper()
	checkWrong(t, base+line, ofBase+1, e)
	checkWrong(t, base+line+"\n", ofBase+1, e)
	checkWrong(t, base+"# x\n\n"+line+"\nvertex 9 a\n", ofBase+3, e)
	// The first one that is wrong is told, whatever is wrong with a later one.
	checkWrong(t, base+line+"\nx\nvertex 1 a\nedge 4 b 9 9\nset edge 9 k 1\n", ofBase+1, e)
	checkPlainly(t, base+line+"\nx")
}

func TestLinesOfNoForm(t *testing.T) {
	for _, line := range []string{
		"x", "v", "Vertex 4 a", "VERTEX 4 a", "vertexs 4 a", "verte 4 a", "vertex4 a", "vertex\t4 a", "'vertex' 4 a", "path 4 a",
		"set", "set ", "set thing 1 k 5", "set vertex", "set edge", "set vertexs 1 k 5", "set Vertex 1 k 5", "sets vertex 1 k 5", "set 1 k 5",
		"set set 1 k 5", "vertex vertex 4 a", "vertex set 1 k 5", "edge vertex 4 a", "unset vertex 1 k 5", "vertex 1 k 5", "edge 3 k 5",
		"\ufeffvertex 4 a", "\xff", "é 4 a", "// x", "-- x", ";", "=", "4", "a", "4 a", "vertex:4:a", "vertex,4,a",
		"set  vertex 1 k 5", "set\tvertex 1 k 5", "set vertex\t1 k 5",
	} {
		checkLine(t, line, noText)
	}
}

// good: lines of each form, each of which may stand behind base.
func good() []string {
	return []string{"vertex 4 a", "edge 4 b 1 2", "set vertex 1 j 5", "set edge 3 j 5", "set vertex 1 j 'x'", "set edge 3 j [1]", "set vertex 2 k true"}
}

func TestGoodLines(t *testing.T) {
	for _, line := range good() {
		checkTaken(t, base+line)
		checkTaken(t, base+line+"\n")
	}
}

func TestWordsTooFewOrTooMany(t *testing.T) {
	for _, line := range good() {
		words := strings.Split(line, " ")
		for n := range words {
			if n > 0 {
				checkLine(t, strings.Join(words[:n], " "), noText)
				checkLine(t, strings.Join(words[:n], " ")+" ", noText)
			}
			less := strings.Join(append(append([]string{}, words[:n]...), words[n+1:]...), " ")
			checkLine(t, less, noText)
		}
		for _, more := range []string{"x", "1", "a", "''", "#", "# x", "1 2"} {
			checkLine(t, line+" "+more, noText)
		}
	}
}

func TestBlanks(t *testing.T) {
	for _, line := range good() {
		for _, wrong := range []string{" " + line, "  " + line, line + " ", line + "  ", line + "\r", line + "\t", "\t" + line, "\r" + line, line + "\x00"} {
			checkLine(t, wrong, noText)
		}
		for i, c := range line {
			if c != ' ' {
				continue
			}
			for _, other := range []string{"  ", "   ", "", "\t", " \t", "\r", "\x00", "\u00a0", ",", ", "} {
				checkLine(t, line[:i]+other+line[i+1:], noText)
			}
		}
	}
}

// wrongNumbers: what is no number of a thing.
func wrongNumbers() []string {
	return []string{
		"", "-", "-1", "-0", "-" + greatest, "-9223372036854775808", "-9223372036854775809", "+1", "--1", "00", "01", "007", "1.0", "1e0", "0x1", "1_0",
		"9223372036854775808", "18446744073709551616", "18446744073709551617", "99999999999999999999999999", strings.Repeat("9", 5000),
		"1x", "x1", "x", "a", "one", "'1'", "[1]", "true", "v[1]", "1,", "٣", "１", "1\x00", "\xff", "1\r", "#1", "#",
	}
}

func TestWrongNumbers(t *testing.T) {
	for _, n := range wrongNumbers() {
		for _, form := range []string{
			"vertex N a", "edge N b 1 2", "edge 4 b N 2", "edge 4 b 1 N", "edge 4 b N N", "edge N b N N", "set vertex N j 5", "set edge N j 5",
		} {
			checkLine(t, strings.ReplaceAll(form, "N", n), noText)
		}
	}
}

// wrongNames: what is no name.
func wrongNames() []string {
	return []string{
		"", "2x", "9", "0", "-a", "a-b", "a.b", "a:b", "a,", "'a'", "\"a\"", "é", "aé", "a\x00", "\xff", "a\xff", "#a", "a#", "a\t", "a\r", "[a]", "a'",
		letters(api.MaxName + 1), letters(api.MaxName-1) + "é", letters(5000),
	}
}

func TestWrongNames(t *testing.T) {
	for _, s := range wrongNames() {
		for _, form := range []string{"vertex 4 NAME", "edge 4 NAME 1 2", "set vertex 1 NAME 5", "set edge 3 NAME 5"} {
			checkLine(t, strings.ReplaceAll(form, "NAME", s), noText)
		}
	}
}

// wrongValues: texts of no value, and of values that no property has.
func wrongValues() []string {
	long, many := letters(api.MaxText+1), strings.Repeat("0, ", api.MaxItems)+"0"
	return []string{
		"", " ", "x", "True", "TRUE", "tru", "truee", "true ", " true", "true true", "nil", "null", "1 2", "1,", "01", "+1", "-0", "-", "1.5",
		"9223372036854775808", "-9223372036854775809", "'", "'a", "a'", "\"a\"", "''a", "'a' ", " 'a'", "'a' 'b'", "'a'b'", `'\'`, `'\a'`, `'\x41'`, `'\x0A'`, `'\x0'`,
		"'é'", "'\t'", "'\x00'", "'\r'", "'\x7f'", "'" + long + "'",
		"[", "]", "[1", "1]", "[1,2]", "[1,  2]", "[1 2]", "[1, ]", "[, 1]", "[ 1]", "[1 ]", "[ ]", "[]]", "[] ", "[]x", "[" + many + "]", "['" + long + "']",
		// Values, but none of a property.
		"v[1]", "e[3]", "v[0]", "{}", "{'a': 1}", "path[]", "path[1]", "[[]]", "[1, []]", "[[1], 2]", "[v[1]]", "[1, e[3]]", "[{}]", "[path[]]",
		strings.Repeat("[", api.MaxDepth) + strings.Repeat("]", api.MaxDepth), strings.Repeat("[", 5000), strings.Repeat("[", 5000) + strings.Repeat("]", 5000),
		"# x", "5 # x", "5#",
	}
}

func TestWrongValues(t *testing.T) {
	for _, s := range wrongValues() {
		for _, form := range []string{"set vertex 1 j ", "set vertex 1 k ", "set edge 3 j "} {
			checkLine(t, form+s, noText)
		}
	}
	// A text that goes on in the next line is none.
	checkWrong(t, base+"set vertex 1 j 'a\nb'", ofBase+1, noText)
	checkWrong(t, base+"set vertex 1 j [1,\n2]", ofBase+1, noText)
}

func TestWhatIsThereAlready(t *testing.T) {
	for _, line := range []string{"vertex 1 a", "vertex 2 a", "vertex 1 other", "edge 3 b 1 2", "edge 3 b 2 1", "edge 3 other 1 1"} {
		checkLine(t, line, api.ErrTwice)
	}
	// An ID of the other kind is free.
	for _, line := range []string{"vertex 3 a", "edge 1 b 1 2", "edge 2 b 1 2"} {
		checkTaken(t, base+line)
	}
	checkWrong(t, "vertex "+greatest+" a\nvertex 0 a\nvertex "+greatest+" a", 3, api.ErrTwice)
	checkWrong(t, "vertex 0 a\nvertex 0 a", 2, api.ErrTwice)
}

func TestWhatIsNotThere(t *testing.T) {
	for _, line := range []string{
		"edge 4 b 9 1", "edge 4 b 1 9", "edge 4 b 9 9", "edge 4 b 1 3", "edge 4 b 3 1", "edge 4 b 0 1", "edge 4 b 1 " + greatest, "edge 4 b 4 4",
		"set vertex 9 k 5", "set vertex 3 k 5", "set vertex 0 k 5", "set edge 1 k 5", "set edge 2 k 5", "set edge 9 k 5", "set edge " + greatest + " k 5",
	} {
		checkLine(t, line, api.ErrNone)
	}
	// What comes in a later line is not there yet.
	checkWrong(t, base+"edge 4 b 1 9\nvertex 9 a", ofBase+1, api.ErrNone)
	checkWrong(t, base+"edge 4 b 9 1\nvertex 9 a", ofBase+1, api.ErrNone)
	checkWrong(t, base+"set vertex 9 k 5\nvertex 9 a", ofBase+1, api.ErrNone)
	checkWrong(t, base+"set edge 4 k 5\nedge 4 b 1 2", ofBase+1, api.ErrNone)
	checkWrong(t, "edge 0 b 0 0\nvertex 0 a", 1, api.ErrNone)
	checkTaken(t, base+"vertex 9 a\nedge 4 b 1 9\nset vertex 9 k 5\nset edge 4 k 5")
}

// Of several reasons the first one that the document names is told.
func TestTheFirstReason(t *testing.T) {
	for line, e := range map[string]api.Errno{
		"vertex 1 2x": noText, "vertex 1 a ": noText, "vertex 1 a x": noText, "vertex 1": noText,
		"edge 3 2x 1 2": noText, "edge 3 b 9 -1": noText, "edge 3 b -1 9": noText, "edge 3 b 9": noText, "edge 3 b 9 9 9": noText, "edge 4 2x 9 9": noText,
		"edge 3 b 9 9": api.ErrTwice, "edge 3 b 1 9": api.ErrTwice, "edge 3 b 9 1": api.ErrTwice,
		"set vertex 9 2x 5": noText, "set vertex 9 k x": noText, "set vertex 9 k {}": noText, "set vertex 9 k": noText, "set edge 9 k v[1]": noText, "set thing 9 k 5": noText,
	} {
		checkLine(t, line, e)
	}
}
