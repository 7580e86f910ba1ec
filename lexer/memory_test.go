package lexer_test

import (
	"bytes"
	"slices"
	"testing"

	"wayfarer/api"
	"wayfarer/lexer"
)

const whole = "g.has('a\\'b', -12) [x9] "

func writeOver(q []byte) {
	for i := range q {
		q[i] = ';'
	}
}

func TestTheQueryStaysAsItIs(t *testing.T) {
	room := append([]byte(whole), "behind"...)
	q := room[:len(whole)]
	for _, n := range []int{len(whole), 7, 0} {
		lexer.All(q[:n])
		some(lexer.Tokens(q[:n]), len(q))
		some(lexer.Tokens(q[:n]), 2)
	}
	if string(room) != whole+"behind" {
		t.Errorf("%s", room)
	}
}

func TestTheQueryIsNotKept(t *testing.T) {
	want, _ := plainly(whole)
	q := []byte(whole)
	l, _, _ := lexer.All(q)
	writeOver(q)
	checkSome(t, l, want)
	// Written over ahead of the first token, and between any two.
	for n := range len(want) {
		q := []byte(whole)
		tokens := lexer.Tokens(q)
		if n == 0 {
			writeOver(q)
		}
		var got []api.Token
		for x := range tokens {
			got = append(got, x)
			if len(got) == n {
				writeOver(q)
			}
		}
		checkSome(t, got, want)
		checkSome(t, slices.Collect(tokens), want)
	}
}

func TestWhatComesOutIsNew(t *testing.T) {
	want, _ := plainly(whole)
	q := []byte(whole)
	a, _, _ := lexer.All(q)
	b, _, _ := lexer.All(q)
	for i := range a {
		a[i] = api.Token{}
	}
	_ = append(a, name("x"))
	checkSome(t, b, want)
	// What is laid behind one list is in no other one.
	c, d := append(b, name("x")), append(slices.Clip(b), name("y"))
	e, _, _ := lexer.All(q)
	e = append(e, name("z"))
	if c[len(want)].S != "x" || d[len(want)].S != "y" || e[len(want)].S != "z" {
		t.Error(c, d, e)
	}
	checkAll(t, whole, want...)
	if !bytes.Equal(q, []byte(whole)) {
		t.Errorf("%s", q)
	}
	l := lexer.Tokens(q)
	for x := range l {
		x.S, x.N, x.At, x.Kind = "", 1, -1, 9
	}
	checkSome(t, slices.Collect(l), want)
}

// A wrong query leaves nothing behind for the next one.
func TestNothingIsKeptBetweenCalls(t *testing.T) {
	for range 3 {
		checkWrong(t, "g.V() 'abc", 6)
		checkAll(t, "x", at(0, name("x")))
		checkLong(t, letters(api.MaxQuery+1))
		checkAll(t, "")
	}
}
