package lexer_test

import (
	"strings"
	"testing"

	"wayfarer/api"
	"wayfarer/lexer"
)

// samples: tokens of every kind.
func samples() []api.Token {
	return []api.Token{
		name("g"), name("has"), name("V"), name("z"), name("A"), name("Z"), name("_"), name("__"), name("_9"), name("a_B9z0"), name("true"),
		number(0), number(7), number(-12), number(1090), number(api.MaxInt), number(api.MinInt),
		text(""), text("a"), text("a'b"), text(`\`), text(`\'\\''`), text(" a  b "), text("g.V()"), text("-1"), text("~\x7f\x80\xff"), text("é"), text(`"`),
		sign("."), sign("("), sign(")"), sign(","), sign("["), sign("]"),
	}
}

// The document's examples, and queries as they are written.
func TestAll(t *testing.T) {
	checkAll(t, `g.has('a\'b', -12)`,
		at(0, name("g")), at(1, sign(".")), at(2, name("has")), at(5, sign("(")), at(6, text("a'b")),
		at(12, sign(",")), at(14, number(-12)), at(17, sign(")")))
	checkWrong(t, "g 12x", 2)
	checkAll(t, "g.V()\n\t.out('knows').id()\r\n",
		at(0, name("g")), at(1, sign(".")), at(2, name("V")), at(3, sign("(")), at(4, sign(")")),
		at(7, sign(".")), at(8, name("out")), at(11, sign("(")), at(12, text("knows")), at(19, sign(")")),
		at(20, sign(".")), at(21, name("id")), at(23, sign("(")), at(24, sign(")")))
	checkAll(t, `[1,'\\',__]`,
		at(0, sign("[")), at(1, number(1)), at(2, sign(",")), at(3, text(`\`)), at(7, sign(",")), at(8, name("__")), at(10, sign("]")))
}

func TestNamesAndNumbers(t *testing.T) {
	checkAll(t, "x9", at(0, name("x9")))
	checkAll(t, "x 9", at(0, name("x")), at(2, number(9)))
	checkAll(t, "9 x", at(0, number(9)), at(2, name("x")))
	checkWrong(t, "9x", 0)
	checkAll(t, "_1 1", at(0, name("_1")), at(3, number(1)))
	checkWrong(t, "1_", 0)
	checkWrong(t, "1_1", 0)
	checkAll(t, "a-1", at(0, name("a")), at(1, number(-1)))
	checkAll(t, "1-2-3", at(0, number(1)), at(1, number(-2)), at(3, number(-3)))
	checkAll(t, "-1-1", at(0, number(-1)), at(2, number(-1)))
	checkAll(t, "0-1", at(0, number(0)), at(1, number(-1)))
	checkAll(t, "1.5", at(0, number(1)), at(1, sign(".")), at(2, number(5)))
	checkAll(t, "Zz.aA", at(0, name("Zz")), at(2, sign(".")), at(3, name("aA")))
	checkAll(t, "9223372036854775807 -9223372036854775808",
		at(0, number(api.MaxInt)), at(20, number(api.MinInt)))
	// A name and a number are as long as they are.
	checkAll(t, letters(2000), at(0, name(letters(2000))))
	for _, q := range []string{
		"-", "--1", "- 1", "-\n", "-0", "00", "01", "-01", "007", "1a", "1_0", "0x1", "1e3", "-a", "-_", "-'1'", "-.", "9Z",
		"9223372036854775808", "-9223372036854775809", "18446744073709551616", "1" + strings.Repeat("0", 1000),
	} {
		checkNone(t, q)
	}
}

func TestTexts(t *testing.T) {
	checkAll(t, `''`, at(0, text("")))
	checkAll(t, `''''`, at(0, text("")), at(2, text("")))
	checkAll(t, `'\''`, at(0, text("'")))
	checkAll(t, `'\\'`, at(0, text(`\`)))
	checkAll(t, `'\\\''`, at(0, text(`\'`)))
	checkAll(t, `'\'\\'`, at(0, text(`'\`)))
	checkAll(t, `'\\'x`, at(0, text(`\`)), at(4, name("x")))
	checkAll(t, `'a'b'c'`, at(0, text("a")), at(3, name("b")), at(4, text("c")))
	checkAll(t, "' \x7f\x80\xff\"é'", at(0, text(" \x7f\x80\xff\"é")))
	for _, q := range []string{
		`'`, `'a`, `'a b `, `'\`, `'\'`, `'\\`, `'\\\'`, `'a\`, `'\\a\'`,
		`'\n'`, `'\x0a'`, `'\t'`, `'\0'`, `'\ '`, `'\"'`, `'\a'`, "'\\\n'", "'\\\x00'", "'\\\xff'", `'a\'b\c'`,
		"'\n'", "'\x00'", "'\x1f'", "'\t'", "'a\rb'", "'abc\n", "'a\n'b'",
	} {
		checkNone(t, q)
	}
	for c := range firstOfText {
		checkNone(t, "'"+string([]byte{byte(c)})+"'")
		checkNone(t, `'a\`+string([]byte{byte(c)})+"'")
	}
}

// firstOfText: bytes below it stand in no text.
const firstOfText = 32

// Each byte, outside of a text and in one, meant and behind a backslash.
func TestEachByte(t *testing.T) {
	for c := range 256 {
		s := string([]byte{byte(c)})
		for _, q := range []string{s, "'" + s + "'", `'\` + s + "'", "'" + s, s + "'", "a" + s, "a" + s + "a", "1" + s, "1" + s + "1", "-" + s, "-1" + s, "." + s, "'a'" + s, " " + s, s + "\n."} {
			check(t, q)
		}
	}
	for _, q := range []string{"é", "\x80", "\xff", "\xc3\xa9", "\x7f", "\x00", "\x1f", "\v", "\f", "\u00a0", "\ufeff", "٣", ";", ":", "{", "}", `"`, "`", `\`, "+", "*", "=", "<", ">", "#", "/", "$", "@", "^", "|", "~", "!", "?", "%", "&"} {
		checkNone(t, q)
	}
	checkWrong(t, "aé", 1)
	checkWrong(t, "1é", 1)
}

func TestSign(t *testing.T) {
	for c := range 256 {
		want := strings.IndexByte(".(),[]", byte(c)) >= 0
		if got := lexer.Sign(byte(c)); got != want {
			t.Error("byte", c, got)
		}
	}
}

func TestNothing(t *testing.T) {
	checkAll(t, "")
	for _, q := range []string{" ", "\t", "\n", "\r", " \t\r\n \n\n", strings.Repeat(" ", api.MaxQuery)} {
		checkAll(t, q)
	}
	l, place, e := lexer.All(nil)
	if len(l) != 0 || place != 0 || e != api.OK {
		t.Error(l, place, e)
	}
	for x := range lexer.Tokens(nil) {
		t.Error(x)
	}
}

func TestBlanks(t *testing.T) {
	for _, between := range []string{" ", "\t", "\n", "\r", "\r\n", " \t\n\r ", strings.Repeat("\n", 100)} {
		q, l := laid(between, samples()...)
		checkAll(t, q, l...)
		checkAll(t, strings.TrimSpace(q)[:1], at(0, name("g")))
		for _, x := range samples() {
			q, l := laid(between, x)
			checkAll(t, q, l...)
		}
	}
	// What only looks as if it were one, is none.
	for _, c := range []string{"\v", "\f", "\x00", "\x1f", "\x08", "\x0b", "\x0e", "\x7f", "\u0085", "\u00a0", "\u2028"} {
		checkWrong(t, "a"+c+"b", 1)
		checkWrong(t, c, 0)
	}
}

// Any two tokens, and any three, with blanks and with none between: without
// them two may be one, or none.
func TestNeighbours(t *testing.T) {
	all := samples()
	for _, a := range all {
		for _, b := range all {
			check(t, written(a)+written(b))
			q, l := laid("\n", a, b)
			checkAll(t, q, l...)
			for _, c := range all {
				check(t, written(a)+written(b)+written(c))
			}
		}
	}
	for _, a := range all {
		for _, b := range all {
			if a.Kind == api.TokText || a.Kind == api.TokSign || b.Kind == api.TokText || b.Kind == api.TokSign {
				q, l := laid("", a, b)
				checkAll(t, q, l...)
			}
		}
	}
}

func TestLimits(t *testing.T) {
	for _, c := range []string{"a", `\'`, `\\`, "\xff", " ", "."} {
		meant := strings.TrimPrefix(c, `\`)
		most := strings.Repeat(c, api.MaxText)
		checkAll(t, "'"+most+"'", at(0, text(strings.Repeat(meant, api.MaxText))))
		checkAll(t, "'"+most+"'x", at(0, text(strings.Repeat(meant, api.MaxText))), at(len(most)+2, name("x")))
		checkNone(t, "'"+most+c+"'")
		checkNone(t, "'"+most)
		checkNone(t, "'"+most+c)
		checkNone(t, "'a"+most+"'")
		checkNone(t, "'"+strings.Repeat(c, 5*api.MaxText)+"'")
	}
	checkAll(t, "'"+letters(api.MaxText-1)+`\''`, at(0, text(letters(api.MaxText-1)+"'")))
	checkNone(t, "'"+letters(api.MaxText)+`\''`)
	checkNone(t, "'"+letters(api.MaxText)+`\\'`)
	checkNone(t, "'"+letters(api.MaxText)+`\'`)
}

func TestLength(t *testing.T) {
	for _, s := range []string{"a", " ", ".", "a ", "'\\''", "1 ", "-1", "'a'b"} {
		most := strings.Repeat(s, api.MaxQuery/len(s)+1)[:api.MaxQuery]
		check(t, most)
		checkLong(t, most+"a")
		checkLong(t, most+" ")
		checkLong(t, most+"'")
		checkLong(t, strings.Repeat(most, 50))
	}
	checkAll(t, strings.Repeat("a", api.MaxQuery), at(0, name(strings.Repeat("a", api.MaxQuery))))
	checkAll(t, strings.Repeat(" ", api.MaxQuery-1)+"a", at(api.MaxQuery-1, name("a")))
	checkAll(t, "a"+strings.Repeat(" ", api.MaxQuery-1), at(0, name("a")))
	signs := strings.Repeat("[", api.MaxQuery)
	if l, _, e := lexer.All([]byte(signs)); len(l) != api.MaxQuery || e != api.OK {
		t.Error(len(l), e)
	}
	// Whatever else is wrong with it, too many bytes are too many.
	for _, c := range []string{"\x00", ";", "'", "-", "1a", "\xff", "'\n", `\`} {
		check(t, strings.Repeat(c, api.MaxQuery/len(c)))
		checkLong(t, strings.Repeat(c, api.MaxQuery+1))
		checkWrong(t, strings.Repeat(" ", api.MaxQuery-len(c))+c, api.MaxQuery-len(c))
		checkLong(t, strings.Repeat(" ", api.MaxQuery+1-len(c))+c)
		checkLong(t, strings.Repeat(c, 1<<20))
	}
}
