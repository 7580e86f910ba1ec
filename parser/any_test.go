package parser_test

import (
	"math/rand"
	"strings"
	"testing"

	"wayfarer/api"
	"wayfarer/lexer"
	"wayfarer/tree"
)

// walk checks q, and each text of at most so many more of these tokens, as long
// as more could follow.
func walk(t *testing.T, q string, tokens []string, most int) int {
	seen := 1
	if !check(t, q) || most == 0 {
		return seen
	}
	for _, x := range tokens {
		seen += walk(t, q+" "+x, tokens, most-1)
	}
	return seen
}

func TestAllSmallQueries(t *testing.T) {
	few := strings.Fields("g . ( ) , [ ] x __ true 1 'a' eq between within not and")
	seen := walk(t, "", few, 10)
	for _, ahead := range []string{"g.x([", "g.x(__.y(", "g.x(within(1", "g.x(and(", "g.x(and(eq(1)", "g.x(or(not(eq(1)),", "g.x(between(", "g.x(__.y()", "g.x([[1],", "g.x(__.y(__.z("} {
		seen += walk(t, ahead, few, 6)
	}
	seen += walk(t, "g.x(", strings.Fields(") , [ ] 1"), 9)
	seen += walk(t, "g.x(", strings.Fields(". ( ) , y __"), 9)
	seen += walk(t, "g.x(", strings.Fields("( ) , 1 within and not"), 9)
	if seen < 100000 {
		t.Error("only", seen, "were looked at")
	}
}

// blanks: how two tokens may be kept apart.
func blanks() []string { return []string{" ", "\n", "\t", "\r\n", "  "} }

// spaced: the tokens, with some blanks between.
func spaced(r *rand.Rand, tokens []string) string {
	var s strings.Builder
	for _, x := range tokens {
		s.WriteString(x + blanks()[r.Intn(len(blanks()))])
	}
	return s.String()
}

// tokensOf: the tokens of what is printed, each as it is written.
func tokensOf(s string) []string {
	var tokens []string
	for t := range lexer.Tokens([]byte(s)) {
		x := t.S
		if t.Kind == api.TokText {
			x = "'" + strings.NewReplacer("'", `\'`, `\`, `\\`).Replace(t.S) + "'"
		}
		tokens = append(tokens, x)
	}
	return tokens
}

// changed: the tokens with one left out, laid in, put for another one, doubled,
// put in another place, or with all behind one cut off.
func changed(r *rand.Rand, tokens []string) []string {
	i := r.Intn(len(tokens))
	any := alphabet()[r.Intn(len(alphabet()))]
	ahead, behind := tokens[:i:i], tokens[i+1:]
	switch r.Intn(6) {
	case 0:
		return append(ahead, behind...)
	case 1:
		return append(append(ahead, any), tokens[i:]...)
	case 2:
		return append(append(ahead, any), behind...)
	case 3:
		return append(append(ahead, tokens[i], tokens[i]), behind...)
	case 4:
		return append(append(ahead, tokens[r.Intn(len(tokens))]), behind...)
	}
	return ahead
}

// Queries that differ in little from some that are read.
func TestQueriesChanged(t *testing.T) {
	r := rand.New(rand.NewSource(2))
	read := 0
	for range 6000 {
		s, e := tree.Print(anyChain(r, 1+r.Intn(4)))
		if e != api.OK {
			continue
		}
		tokens := tokensOf(s)
		for range 1 + r.Intn(3) {
			if len(tokens) > 0 {
				tokens = changed(r, tokens)
			}
		}
		q := spaced(r, tokens)
		if _, e, _ := plainly(q); e == api.OK {
			read++
		}
		check(t, q)
	}
	if read < 100 || read > 3000 {
		t.Error("of those that are changed,", read, "are read")
	}
}

// One place of a query is changed, whatever comes of it.
func TestOnePlaceChanged(t *testing.T) {
	for _, q := range wholes() {
		for i := range len(q) + 1 {
			check(t, q[:i])
			check(t, q[i:])
			for c := range 256 {
				s := string([]byte{byte(c)})
				check(t, q[:i]+s+q[i:])
				if i < len(q) {
					check(t, q[:i]+s+q[i+1:])
				}
			}
			if i < len(q) {
				check(t, q[:i]+q[i+1:])
				check(t, q[:i+1]+q[i:])
			}
		}
	}
}

// Any tokens in any order, and any bytes.
func TestAnyTokens(t *testing.T) {
	r := rand.New(rand.NewSource(3))
	for range 20000 {
		q := "g.x("[:r.Intn(5)]
		for range r.Intn(20) {
			q += " " + alphabet()[r.Intn(len(alphabet()))]
		}
		check(t, q)
	}
	for range 20000 {
		b := make([]byte, r.Intn(30))
		for i := range b {
			if b[i] = "g.x(),[]'\\_1- \n;"[r.Intn(16)]; r.Intn(20) == 0 {
				b[i] = byte(r.Intn(256))
			}
		}
		check(t, "g.x("[:r.Intn(5)]+string(b))
	}
}

// What is far beyond each limit ends, too.
func TestFarTooMany(t *testing.T) {
	for _, ahead := range []string{"", "g", "g.x(", "g.x(1", "g.x([", "g.x(eq(", "g.x(within(1", "g.x(not(", "g.x(and(eq(1)", "g.x(__", "g.x()"} {
		for _, s := range []string{".x()", ".x(__", ".x(", "__.x(", "(", "[", "not(", "and(", "and(eq(1),", "1,", ",1", "eq(1),", ",eq(1)", ")", "]", "x", "x,", ",x", "[],", ",[]", "g", ".", "'", "'a',"} {
			check(t, ahead+strings.Repeat(s, (api.MaxQuery-len(ahead))/len(s)))
			checkTold(t, ahead+strings.Repeat(s, api.MaxQuery+1), 0, api.ErrLong)
		}
	}
}
