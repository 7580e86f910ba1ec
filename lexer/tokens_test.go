package lexer_test

import (
	"iter"
	"slices"
	"strings"
	"testing"

	"wayfarer/api"
	"wayfarer/lexer"
)

// some: the first n, or all, if there are no more; whoever goes through them
// stops there.
func some(l iter.Seq[api.Token], n int) []api.Token {
	var got []api.Token
	if n == 0 {
		return got
	}
	for x := range l {
		got = append(got, x)
		if len(got) == n {
			break
		}
	}
	return got
}

func checkSome(t *testing.T, got, want []api.Token) {
	t.Helper()
	if !slices.Equal(got, want) {
		t.Errorf("%v, not %v", got, want)
	}
}

func TestTokensEndAtTheFirstThatIsNone(t *testing.T) {
	ahead := tokens(at(0, name("g")), at(1, sign(".")), at(2, name("is")), at(4, sign("(")))
	for _, c := range []string{"12x", "'", "'a\n'", `'\n'`, "-", ";", "\x00", "\xff", "007", "'" + letters(api.MaxText+1) + "'"} {
		checkSome(t, slices.Collect(lexer.Tokens([]byte("g.is("+c))), ahead)
		checkSome(t, slices.Collect(lexer.Tokens([]byte("g.is("+c+" ) . g"))), ahead)
		checkSome(t, slices.Collect(lexer.Tokens([]byte(c+" ) . g"))), nil)
	}
}

func TestTokensStopAndBeginAgain(t *testing.T) {
	const good, wrong = "g.has('x', -1) [2]", "g.has('x', -1) [2] 3x 4"
	for _, q := range []string{good, wrong, "", " ", "a", ";"} {
		want, _ := plainly(q)
		l := lexer.Tokens([]byte(q))
		for n := range len(want) + 3 {
			checkSome(t, some(l, n), want[:min(n, len(want))])
			checkSome(t, slices.Collect(l), want)
			checkSome(t, some(l, n), want[:min(n, len(want))])
		}
	}
}

// Nothing is handed on behind the answer that no more is wanted, nor is
// anything handed on twice.
func TestTokensAskAnewEachTime(t *testing.T) {
	l := lexer.Tokens([]byte("a b c ;"))
	for n := 1; n <= 5; n++ {
		asked := 0
		l(func(api.Token) bool {
			asked++
			return asked < n
		})
		if asked != min(n, 3) {
			t.Error(n, asked)
		}
	}
}

func TestTokensWithinTokens(t *testing.T) {
	l := lexer.Tokens([]byte("a b c"))
	var got []string
	for x := range l {
		for y := range l {
			if y.S == "c" {
				break
			}
			got = append(got, x.S+y.S)
		}
	}
	if want := strings.Fields("aa ab ba bb ca cb"); !slices.Equal(got, want) {
		t.Error(got)
	}
}

func TestTokensOfTwoQueries(t *testing.T) {
	a, b := lexer.Tokens([]byte("a b c")), lexer.Tokens([]byte("1 2"))
	want := tokens(at(0, number(1)), at(2, number(2)))
	for range a {
		checkSome(t, slices.Collect(b), want)
		lexer.All([]byte("x y z"))
	}
	checkSome(t, some(a, 1), tokens(at(0, name("a"))))
	checkSome(t, some(b, 1), want[:1])
}

func TestOneAfterTheOtherByPull(t *testing.T) {
	const q = "g.V('a') 1"
	want, _ := plainly(q)
	l := lexer.Tokens([]byte(q))
	next, stop := iter.Pull(l)
	defer stop()
	for _, x := range want {
		if got, ok := next(); got != x || !ok {
			t.Error(got, ok)
		}
		checkSome(t, slices.Collect(l), want)
	}
	if got, ok := next(); ok {
		t.Error(got)
	}
}
