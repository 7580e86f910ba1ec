package lexer_test

import (
	"regexp"
	"slices"
	"strconv"
	"strings"
	"testing"

	"wayfarer/api"
	"wayfarer/lexer"
)

func name(s string) api.Token { return api.Token{Kind: api.TokName, S: s} }

func number(n int) api.Token { return api.Token{Kind: api.TokNumber, S: strconv.Itoa(n), N: n} }

func text(s string) api.Token { return api.Token{Kind: api.TokText, S: s} }

func sign(s string) api.Token { return api.Token{Kind: api.TokSign, S: s} }

func at(place int, t api.Token) api.Token {
	t.At = place
	return t
}

func tokens(l ...api.Token) []api.Token { return l }

func letters(n int) string { return strings.Repeat("a", n) }

// written: the bytes of a token.
func written(t api.Token) string {
	if t.Kind == api.TokText {
		return "'" + strings.NewReplacer("'", `\'`, `\`, `\\`).Replace(t.S) + "'"
	}
	return t.S
}

// laid: tokens one behind the other with that between and on both sides, and
// the query that they are, each with its place.
func laid(between string, l ...api.Token) (string, []api.Token) {
	q := between
	var placed []api.Token
	for _, t := range l {
		placed = append(placed, at(len(q), t))
		q += written(t) + between
	}
	return q, placed
}

var (
	plainBlanks = regexp.MustCompile(`^[ \t\n\r]*`)
	plainName   = regexp.MustCompile(`^[A-Za-z_][A-Za-z0-9_]*`)
	plainNumber = regexp.MustCompile(`^[-0-9][A-Za-z0-9_]*`)
	plainText   = regexp.MustCompile(`^'([^\x00-\x1f'\\]|\\'|\\\\)*'`)
	plainSign   = regexp.MustCompile(`^[.(),\[\]]`)
	plainEscape = regexp.MustCompile(`\\(.)`)
)

// plainly: the tokens of q up to the first that is none, and that one's place,
// or -1; by the plainest reading of the document.
func plainly(q string) ([]api.Token, int) {
	var l []api.Token
	place := 0
	for {
		place += len(plainBlanks.FindString(q[place:]))
		if place == len(q) {
			return l, -1
		}
		t, long := plainToken(q[place:])
		if t.Kind == 0 {
			return l, place
		}
		l = append(l, at(place, t))
		place += long
	}
}

func plainToken(q string) (api.Token, int) {
	if s := plainName.FindString(q); s != "" {
		return name(s), len(s)
	}
	if s := plainNumber.FindString(q); s != "" {
		n, err := strconv.Atoi(s)
		if err != nil || strconv.Itoa(n) != s {
			return api.Token{}, 0
		}
		return number(n), len(s)
	}
	if s := plainText.FindString(q); s != "" {
		meant := plainEscape.ReplaceAllString(s[1:len(s)-1], "$1")
		if len(meant) > api.MaxText {
			return api.Token{}, 0
		}
		return text(meant), len(s)
	}
	if s := plainSign.FindString(q); s != "" {
		return sign(s), len(s)
	}
	return api.Token{}, 0
}

// few: the first of many, so that what a test tells stays short.
func few(l []api.Token) []api.Token {
	return l[:min(len(l), 20)]
}

func short(q string) string {
	if len(q) > 100 {
		return strconv.Quote(q[:50]) + " .. " + strconv.Quote(q[len(q)-50:])
	}
	return strconv.Quote(q)
}

// check: All and Tokens of q are what it plainly is.
func check(t *testing.T, q string) {
	t.Helper()
	l, place := plainly(q)
	if place < 0 {
		checkAll(t, q, l...)
		return
	}
	checkWrong(t, q, place)
	checkTokens(t, q, l)
}

// checkAll: q is these tokens.
func checkAll(t *testing.T, q string, want ...api.Token) {
	t.Helper()
	l, place, e := lexer.All([]byte(q))
	if !slices.Equal(l, want) || place != 0 || e != api.OK {
		t.Errorf("All(%s): %v %d %d, not %v", short(q), few(l), place, e, few(want))
	}
	checkTokens(t, q, want)
}

// checkTokens: Tokens of q are these.
func checkTokens(t *testing.T, q string, want []api.Token) {
	t.Helper()
	if l := slices.Collect(lexer.Tokens([]byte(q))); !slices.Equal(l, want) {
		t.Errorf("Tokens(%s): %v, not %v", short(q), few(l), few(want))
	}
}

// checkWrong: the first token of q that is none begins at that place.
func checkWrong(t *testing.T, q string, place int) {
	t.Helper()
	l, got, e := lexer.All([]byte(q))
	if len(l) != 0 || got != place || e != api.ErrText {
		t.Errorf("All(%s): %v %d %d, not a wrong token at %d", short(q), few(l), got, e, place)
	}
}

// checkNone: so it is wherever that stands: q alone, and behind and ahead of
// others.
func checkNone(t *testing.T, q string) {
	t.Helper()
	for _, ahead := range []string{"", " ", "\n\t\r ", "x ", "12 ", "'it\\'s'", "g.V(", "[", "-1,"} {
		checkWrong(t, ahead+q, len(ahead))
		l, _ := plainly(ahead)
		checkTokens(t, ahead+q, l)
	}
	checkWrong(t, q+"\n", 0)
}

// checkLong: q is too long.
func checkLong(t *testing.T, q string) {
	t.Helper()
	l, place, e := lexer.All([]byte(q))
	if len(l) != 0 || place != 0 || e != api.ErrLong {
		t.Errorf("All(%s): %v %d %d, not too long", short(q), len(l), place, e)
	}
	checkTokens(t, q, nil)
}
