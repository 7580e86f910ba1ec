package parser_test

import (
	"slices"
	"strings"
	"testing"

	"wayfarer/api"
	"wayfarer/parser"
)

// alphabet: one token of each kind, and each word that means something.
func alphabet() []string {
	l := []string{".", "(", ")", ",", "[", "]", "1", "-2", "'a'", "''", "'.'", "'('", "'g'", "'eq'", "'__'", "g", "x", "_", letters(api.MaxName), letters(api.MaxName + 1)}
	return append(l, taken()...)
}

// standing: what may follow so much of a query: each of these words and no
// others, or what those words stand for.
func standing() map[string]string {
	return map[string]string{
		"":                                "g",
		"g":                               ".",
		"g.":                              "name",
		"g.x":                             "(",
		"g.x(":                            "argument )",
		"g.x()":                           ".",
		"g.x(1":                           ", )",
		"g.x('a'":                         ", )",
		"g.x(true":                        ", )",
		"g.x(y":                           ", )",
		"g.x([]":                          ", )",
		"g.x(eq(1)":                       ", )",
		"g.x(1,":                          "argument",
		"g.x(y,y,":                        "argument",
		"g.x(1)":                          ".",
		"g.x().":                          "name",
		"g.x().y":                         "(",
		"g.x().y(":                        "argument )",
		"g.x().y()":                       ".",
		"g.x(__":                          ".",
		"g.x(__.":                         "name",
		"g.x(__.y":                        "(",
		"g.x(__.y(":                       "argument )",
		"g.x(__.y(1":                      ", )",
		"g.x(__.y(1,":                     "argument",
		"g.x(__.y()":                      ". , )",
		"g.x(__.y().":                     "name",
		"g.x(__.y(),":                     "argument",
		"g.x(__.y(__.z()":                 ". , )",
		"g.x(__.y(__.z())":                ". , )",
		"g.x(__.y(__.z()))":               ".",
		"g.x([":                           "value ]",
		"g.x([1":                          ", ]",
		"g.x([1,":                         "value",
		"g.x([1,1":                        ", ]",
		"g.x([true":                       ", ]",
		"g.x([[":                          "value ]",
		"g.x([[]":                         ", ]",
		"g.x([[],":                        "value",
		"g.x(eq":                          "(",
		"g.x(eq(":                         "value",
		"g.x(eq(1":                        ")",
		"g.x(eq([":                        "value ]",
		"g.x(eq([1":                       ", ]",
		"g.x(eq([1]":                      ")",
		"g.x(between(":                    "value",
		"g.x(between(1":                   ",",
		"g.x(between(1,":                  "value",
		"g.x(between(1,2":                 ")",
		"g.x(within":                      "(",
		"g.x(within(":                     "value )",
		"g.x(within(1":                    ", )",
		"g.x(within(1,":                   "value",
		"g.x(within(1,2":                  ", )",
		"g.x(within()":                    ", )",
		"g.x(not":                         "(",
		"g.x(not(":                        "predicate",
		"g.x(not(eq":                      "(",
		"g.x(not(eq(1)":                   ")",
		"g.x(not(eq(1))":                  ", )",
		"g.x(not(not(":                    "predicate",
		"g.x(and(":                        "predicate",
		"g.x(and(eq(1)":                   ",",
		"g.x(and(eq(1),":                  "predicate",
		"g.x(and(eq(1),eq(2)":             ", )",
		"g.x(and(eq(1),eq(2),":            "predicate",
		"g.x(and(eq(1),eq(2),eq(3)":       ", )",
		"g.x(and(eq(1),eq(2))":            ", )",
		"g.x(or(and(eq(1),eq(2)),not(":    "predicate",
		"g.x(or(and(eq(1),eq(2)),eq(3)))": ".",
	}
}

// follows: may that token follow, where these words may?
func follows(token, words string) bool {
	name := strings.Trim(token[:1], "0123456789-.,()[]'") != "" && len(token) <= api.MaxName
	pred := slices.Contains(taken()[3:], token)
	value := strings.ContainsAny(token[:1], "12-'[") || token == "true" || token == "false"
	for _, w := range strings.Fields(words) {
		switch {
		case w == token,
			w == "name" && name && token != "__",
			w == "argument" && (name || value),
			w == "value" && value,
			w == "predicate" && pred:
			return true
		}
	}
	return false
}

// checkBegins: q is a query, or begins one: nothing is told but that tokens are
// missing.
func checkBegins(t *testing.T, q string) {
	t.Helper()
	if _, place, e := parser.Parse([]byte(q)); e != api.OK && (e != api.ErrText || place != len(q)) {
		t.Errorf("Parse(%s): %d at %d; it begins a query", show(q), e, place)
	}
	check(t, q)
}

// Each token, everywhere: where it may not stand it is told, and nothing that
// comes behind it is.
func TestEachTokenEverywhere(t *testing.T) {
	for ahead, words := range standing() {
		for _, token := range alphabet() {
			if follows(token, words) {
				checkBegins(t, ahead+" "+token)
				continue
			}
			for _, behind := range []string{"", " ", ")", ",1)", ".x()", "(1))", " g", " 'a'", " __", " ]"} {
				checkWrong(t, ahead+" ", token, " "+behind)
			}
		}
	}
	if l := standing(); !follows("__", l["g.x("]) || follows("__", l["g."]) || follows("x", l["g.x(["]) || !follows("'g'", l["g.x(["]) || follows("'g'", l[""]) {
		t.Error("what may follow is not asked for as it is meant")
	}
}

// wholes: queries that have all that a query may have.
func wholes() []string {
	return []string{
		"g.a()",
		"g.a().b(1)",
		"g.has('a\\'b', -12).is(x, true)",
		" g.V(1, -2).has('age', gt(30)) .where( __.out('a').x(__.y(desc), false) ).is([1, [], [true, 'x']])\n",
		"g.x(and(eq(1), not(within()), or(lt(2), between(1, 2), outside('a', 'b'))), without([1], 2)).y(z)",
	}
}

// cuts: where the tokens of q begin, and where q ends.
func cuts(q string) []int {
	var l []int
	for i := range len(q) {
		if place, e, more := plainly(q[:i]); e == api.ErrText && place == i || more {
			l = append(l, i)
		}
	}
	return append(l, len(q))
}

func TestTokensMissing(t *testing.T) {
	checkEnd(t, "")
	for _, q := range []string{"g", "g.", "g.x", "g.x(", "g.x(1", "g.x(1,", "g.x(y", "g.x([", "g.x([1", "g.x([1,", "g.x([1]", "g.x().", "g.x().y", "g.x().y(",
		"g.x(__", "g.x(__.", "g.x(__.y", "g.x(__.y(", "g.x(__.y()", "g.x(__.y().", "g.x(__.y(),", "g.x(__.y(1)", "g.x(true", "g.x('a'",
		"g.x(eq", "g.x(eq(", "g.x(eq(1", "g.x(eq(1)", "g.x(between(1", "g.x(between(1,", "g.x(between(1,2", "g.x(within(", "g.x(within(1", "g.x(within(1,",
		"g.x(not(", "g.x(not(eq", "g.x(not(eq(1)", "g.x(not(eq(1))", "g.x(and(", "g.x(and(eq(1)", "g.x(and(eq(1),", "g.x(and(eq(1),eq(2)", "g.x(and(eq(1),eq(2))"} {
		for _, blanks := range []string{"", " ", "\n\t\r ", strings.Repeat(" ", 500)} {
			checkEnd(t, blanks+q+blanks)
		}
	}
	// Cut anywhere between two tokens, or within one that may be cut.
	for _, q := range wholes() {
		ended := 0
		for _, i := range cuts(q) {
			if _, e, _ := plainly(q[:i]); e == api.OK {
				ended++
				continue
			}
			checkEnd(t, q[:i])
		}
		if ended == 0 || ended > len(q)/2 {
			t.Error(show(q), ended)
		}
		check(t, q)
	}
}

func TestEmpty(t *testing.T) {
	for _, q := range []string{"", " ", "\t", "\n\n", "\r\n", strings.Repeat(" ", api.MaxQuery)} {
		checkEnd(t, q)
	}
	if l, place, e := parser.Parse(nil); len(l) != 0 || place != 0 || e != api.ErrText {
		t.Error(showChain(l), place, e)
	}
	if s, place, e := parser.Round(nil); s != "" || place != 0 || e != api.ErrText {
		t.Error(s, place, e)
	}
	checkTold(t, strings.Repeat(" ", api.MaxQuery+1), 0, api.ErrLong)
}

// Layer 8's errors come ahead of all that is wrong with the tokens.
func TestWrongTokens(t *testing.T) {
	none := []string{";", "\x00", "\x80", "\xff", "é", "\"", "{", "+", "=", "9x", "-", "--1", "-0", "007", "1e3", "9223372036854775808", "-9223372036854775809",
		"'", "'a", "'a\n'", `'\n'`, `'\`, "'\x1f'", "'" + letters(api.MaxText+1) + "'"}
	for _, s := range none {
		for _, ahead := range []string{"", " ", "g", "g.", "g.x", "g.x(", "g.x(1,", "g.x([", "g.x()", "g.x() ", "g.x(eq(", "g.x(eq(1,", "g.x(__.", "x.", "g g", "1 ", "'g' ", "g.x(]", "g.__(", "g.x(and(eq(1))).", "g" + strings.Repeat(".x()", api.MaxCalls+1) + ".", "g.x(" + strings.Repeat("[", api.MaxDepth+1) + ",", "g.x(" + row("1", api.MaxArgs+1) + ","} {
			if ahead == "" || strings.ContainsAny(ahead[len(ahead)-1:], " .(),[]") {
				checkWrong(t, ahead, s, "\n")
				checkWrong(t, ahead, s, "\n)")
			}
		}
	}
}

func TestTooManyBytes(t *testing.T) {
	for _, s := range []string{"g.x()", "", "g", "g.x(", "x", ";", "'", "\x00", "\xff"} {
		check(t, s+strings.Repeat(" ", api.MaxQuery-len(s)))
		checkTold(t, s+strings.Repeat(" ", api.MaxQuery-len(s)+1), 0, api.ErrLong)
		checkTold(t, strings.Repeat("\n", api.MaxQuery-len(s)+1)+s, 0, api.ErrLong)
		checkTold(t, s+strings.Repeat(" ", 1<<20), 0, api.ErrLong)
		checkTold(t, s+strings.Repeat("\x00", 1<<20), 0, api.ErrLong)
	}
	checkTold(t, string(make([]byte, api.MaxQuery+1)), 0, api.ErrLong)
	checkParse(t, "g.x()"+strings.Repeat(" ", api.MaxQuery-5), call("x"))
	checkParse(t, strings.Repeat("\r\n", api.MaxQuery/2-3)+" g.x()", call("x"))
}

func TestNamesThatAreNone(t *testing.T) {
	for n := api.MaxName + 1; n < api.MaxName+4; n++ {
		checkWrong(t, "g.", letters(n), "()")
		checkWrong(t, "g.x(", letters(n), ")")
	}
	for _, s := range []string{letters(api.MaxName + 1), strings.Repeat("_", 500), letters(api.MaxQuery - 100)} {
		checkWrong(t, "g.", s, "()")
		checkWrong(t, "g.x().", s, "()")
		checkWrong(t, "g.x(__.", s, "())")
		checkWrong(t, "g.x(", s, ")")
		checkWrong(t, "g.x(1,", s, ")")
		checkWrong(t, "g.x(__.y(", s, "))")
		checkWrong(t, "", s, ".x()")
	}
	checkWrong(t, "g.", "__", "()")
	checkWrong(t, "g.x().", "__", "()")
	checkWrong(t, "g.x(__.", "__", "())")
	checkWrong(t, "g.x(__.y().", "__", "())")
	checkWrong(t, "g.", "1", "()")
	checkWrong(t, "g.", "'x'", "()")
	checkWrong(t, "g.", "(", ")")
	checkWrong(t, "", "__", ".x()")
	checkWrong(t, "", "G", ".x()")
	checkWrong(t, "", "gg", ".x()")
	checkWrong(t, "", "'g'", ".x()")
}

// What begins something else than a word, is none: what has to follow is
// missing then, or something else follows than has to.
func TestWordsThatAreNone(t *testing.T) {
	for _, s := range taken() {
		if s == "true" || s == "false" {
			checkParse(t, "g.x("+s+")", call("x", val(flag(s == "true"))))
			checkWrong(t, "g.x("+s, "(", "))")
			checkWrong(t, "g.x("+s, ".", "y())")
			continue
		}
		checkWrong(t, "g.x("+s, ")", "")
		checkWrong(t, "g.x("+s, ",", "1)")
		checkWrong(t, "g.x(1,"+s, ")", "")
		checkWrong(t, "g.x(__.y("+s, ")", ")")
		checkWrong(t, "g.x("+s+" ", "1", ")")
		checkEnd(t, "g.x("+s)
	}
	for _, s := range append(goodNames(), "__") {
		checkWrong(t, "g.x([", s, "])")
		checkWrong(t, "g.x([1,", s, "])")
		checkWrong(t, "g.x(eq(", s, "))")
		checkWrong(t, "g.x(within(1,", s, "))")
		checkWrong(t, "g.x(between(1,", s, "))")
		checkWrong(t, "g.x(not(", s, "))")
		checkWrong(t, "g.x(and(eq(1),", s, "))")
		if s != "__" {
			checkWrong(t, "g.x("+s, "(", "))")
			checkWrong(t, "g.x("+s, ".", "y())")
		}
	}
}

// A predicate has as many as its kind has, and nothing of another kind.
func TestPredsThatAreNone(t *testing.T) {
	for i, s := range taken()[3:] {
		kind := i + 1
		ahead, item, other := "g.x("+s+"(", "1", "eq(1)"
		if kind >= api.Not {
			item, other = other, item
		}
		checkWrong(t, ahead, other, "))")
		checkWrong(t, ahead, "y", "))")
		checkWrong(t, ahead, "__", ".y()))")
		checkWrong(t, ahead, ",", item+"))")
		checkWrong(t, ahead, ".", "))")
		checkWrong(t, ahead, "(", "1)))")
		checkWrong(t, ahead, "]", "))")
		checkWrong(t, "g.x("+s, "[", "1])")
		checkWrong(t, ahead+item, "]", ")")
		checkWrong(t, ahead+item+" ", strings.TrimSuffix(item, "(1)"), "))")
		if kind >= api.Not {
			checkWrong(t, ahead, "[", "eq(1)]))")
			checkWrong(t, ahead, "true", "))")
			checkWrong(t, ahead, "'eq'", "(1)))")
		}
		switch kind {
		case api.Within, api.Without:
			checkWrong(t, ahead+item+",", ")", ")")
		case api.Between, api.Inside, api.Outside:
			checkWrong(t, ahead, ")", ")")
			checkWrong(t, ahead+item, ")", ")")
			checkWrong(t, ahead+item+",", ")", ")")
			checkWrong(t, ahead+item+","+item, ",", item+"))")
			checkWrong(t, ahead+item+","+item, ",", "))")
		case api.And, api.Or:
			checkWrong(t, ahead, ")", ")")
			checkWrong(t, ahead+item, ")", ")")
			checkWrong(t, ahead+item+",", ")", ")")
			checkWrong(t, ahead+item+","+item+",", ")", ")")
			checkWrong(t, ahead+item+",", other, "))")
			checkWrong(t, ahead+item+","+item+",", other, "))")
		default:
			checkWrong(t, ahead, ")", ")")
			checkWrong(t, ahead+item, ",", item+"))")
			checkWrong(t, ahead+item, ",", "))")
		}
	}
}

// Bytes that are no query at all.
func TestNoQueries(t *testing.T) {
	for _, q := range []string{"hello", "select * from x", "{}", "null", "g.V()g.V()", "g.V();", "V()", ".V()", "()", "[1, 2]", "eq(1)", "__.V()", "1", "'g.V()'", "g..V()", "g.V", "g()", "g.V()()", "g.V()..out()", "g.V().", "g V()", "gV()", "g.V(())", "g.V([)]", "g.x(1;2)", "g.x(1 . y())", "g.x(g.y())", "g.x(y())", "g.x(eq(__.y()))", "g.x([__.y()])", "g.x(not(y))", "g.x(__ __.y())", "g.x(__())", "g.x(____.y())", "g.x(-)", "g.x(1.5)", "g.x(\"a\")", "g.x(a-b)"} {
		if _, e, _ := plainly(q); e != api.ErrText {
			t.Error(q, "is a query")
		}
		check(t, q)
	}
	for c := range 256 {
		s := string([]byte{byte(c)})
		for _, q := range []string{s, s + "g.x()", "g" + s + ".x()", "g.x" + s, "g.x(" + s + ")", "g.x('" + s + "')", "g.x([" + s + "])", "g.x()" + s, strings.Repeat(s, 1000)} {
			check(t, q)
		}
	}
}
