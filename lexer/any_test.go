package lexer_test

import (
	"strings"
	"testing"
)

// all hands each text of at most so many of these parts to f.
func all(parts []string, most int, f func(string)) {
	var longer func(string, int)
	longer = func(s string, left int) {
		f(s)
		for i := range parts {
			if left > 0 {
				longer(s+parts[i], left-1)
			}
		}
	}
	longer("", most)
}

func TestAllSmallQueries(t *testing.T) {
	all([]string{"a", "_", "0", "1", "-", "'", `\`, ".", " ", "\n", "\x00", "\xff"}, 5, func(q string) { check(t, q) })
	all([]string{"'", `\`, "a", " "}, 8, func(q string) { check(t, q) })
	all([]string{"-", "0", "1", "x", " ", ","}, 6, func(q string) { check(t, q) })
}

// A query that differs in little from one that is read.
func TestOnePlaceChanged(t *testing.T) {
	for _, q := range []string{
		`g.has('a\'b', -12)`,
		" g.has('a\\'\\\\b',\n-12, [x9] )",
		"g.V(1,2)\r\n.repeat(__.out('x'))\t.times(3)",
		`['', '\\', 9223372036854775807,-9223372036854775808]`,
	} {
		for i := range len(q) + 1 {
			check(t, q[:i])
			check(t, q[i:])
			for c := range 256 {
				s := string([]byte{byte(c)})
				check(t, q[:i]+s+q[i:])
				if i < len(q) {
					check(t, q[:i]+s+q[i+1:])
				}
			}
			if i < len(q) {
				check(t, q[:i]+q[i+1:])
				check(t, q[:i+1]+q[i:])
			}
		}
	}
}

// What is far beyond a limit ends, too.
func TestFarTooLong(t *testing.T) {
	for _, s := range []string{"", "g", "'", "1", "-", "[", "'a' "} {
		for _, c := range []string{"a", "1", "'", `\`, `\'`, " ", ".", "\x00", "\xff", "-"} {
			check(t, s+strings.Repeat(c, 9000))
			checkLong(t, s+strings.Repeat(c, 1<<20))
		}
	}
}
