package parser_test

import (
	"strings"
	"testing"

	"wayfarer/api"
)

// The document's examples.
func TestExamples(t *testing.T) {
	q := "g . V ( ) .has('age',gt(30))"
	checkParse(t, q, call("V"), call("has", val(text("age")), asked(of(api.Gt, num(30)))))
	checkRound(t, q, "g.V().has('age', gt(30))")
	checkTold(t, "g.V(", 4, api.ErrText)
	checkTold(t, "g.V() x", 6, api.ErrText)
	checkTold(t, "g.is(gt(1, 2))", 9, api.ErrText)
	// And those of the layers below it.
	q = "g.V().has('age', gt(30)).where(__.out('knows').is(neq(2))).order(asc)"
	checkParse(t, q,
		call("V"),
		call("has", val(text("age")), asked(of(api.Gt, num(30)))),
		call("where", sub(call("out", val(text("knows"))), call("is", asked(of(api.Neq, num(2)))))),
		call("order", word("asc")))
	checkRound(t, q, q)
	checkParse(t, `g.has('a\'b', -12)`, call("has", val(text("a'b")), val(num(-12))))
	checkTold(t, "g 12x", 2, api.ErrText)
}

func TestCalls(t *testing.T) {
	checkParse(t, "g.a()", call("a"))
	checkParse(t, "g.a().b()", call("a"), call("b"))
	checkParse(t, "g.a().a().a()", call("a"), call("a"), call("a"))
	checkParse(t, "g.a(1)", one(val(num(1)))...)
	checkParse(t, "g.a(1,1,b)", one(val(num(1)), val(num(1)), word("b"))...)
	checkParse(t, "g.a(1).b(2,3).c().d(4)", call("a", val(num(1))), call("b", val(num(2)), val(num(3))), call("c"), call("d", val(num(4))))
	checkParse(t, "g.a(1, eq(2), __.b(), c)", one(val(num(1)), asked(eq(2)), sub(call("b")), word("c"))...)
	checkParse(t, "g.a(c, __.b(), eq(2), 1)", one(word("c"), sub(call("b")), asked(eq(2)), val(num(1)))...)
}

// Any name but one is a call's, whatever else it may be.
func TestNames(t *testing.T) {
	for _, s := range append(goodNames(), taken()...) {
		if s == "__" {
			continue
		}
		checkParse(t, "g."+s+"()", call(s))
		checkParse(t, "g.a()."+s+"(1)."+s+"()", call("a"), call(s, val(num(1))), call(s))
		checkParse(t, "g.a(__."+s+"().b(__."+s+"()))", one(sub(call(s), call("b", sub(call(s)))))...)
	}
	for _, s := range goodNames() {
		checkParse(t, "g.a("+s+")", one(word(s))...)
		checkParse(t, "g."+s+"(1,"+s+","+s+")", call(s, val(num(1)), word(s), word(s)))
		checkParse(t, "g.a(__.b("+s+"),"+s+")", one(sub(call("b", word(s))), word(s))...)
	}
}

// values: those that are written, each by its text.
func values() map[string]api.Value {
	return map[string]api.Value{
		"true":                           flag(true),
		"false":                          flag(false),
		"0":                              num(0),
		"7":                              num(7),
		"-3":                             num(-3),
		"9223372036854775807":            num(api.MaxInt),
		"-9223372036854775808":           num(api.MinInt),
		"''":                             text(""),
		"'a'":                            text("a"),
		"'a b, c'":                       text("a b, c"),
		"'true'":                         text("true"),
		"'__'":                           text("__"),
		"'eq'":                           text("eq"),
		"'-3'":                           text("-3"),
		"','":                            text(","),
		"')'":                            text(")"),
		"'['":                            text("["),
		`'\''`:                           text("'"),
		`'\\'`:                           text(`\`),
		`'\\\''`:                         text(`\'`),
		`'it\'s \\n'`:                    text(`it's \n`),
		"'\x7f\x80\xff'":                 text("\x7f\x80\xff"),
		"'é→'":                           text("é→"),
		"'" + letters(api.MaxText) + "'": text(letters(api.MaxText)),
		"[]":                             list(),
		"[1]":                            list(num(1)),
		"[1, 'a', true, -3]":             list(num(1), text("a"), flag(true), num(-3)),
		"[1,'a',true,-3]":                list(num(1), text("a"), flag(true), num(-3)),
		"[[]]":                           list(list()),
		"[[],[]]":                        list(list(), list()),
		"[[1, [2]], [], ['\\''], 3]":     list(list(num(1), list(num(2))), list(), list(text("'")), num(3)),
		"[false, [true]]":                list(flag(false), list(flag(true))),
	}
}

func TestValues(t *testing.T) {
	for s, v := range values() {
		checkParse(t, "g.a("+s+")", one(val(v))...)
		checkParse(t, "g.a("+s+",x,"+s+")", one(val(v), word("x"), val(v))...)
		checkParse(t, "g.a(["+s+"])", one(val(list(v)))...)
		checkParse(t, "g.a(["+s+",0,"+s+"],"+s+")", one(val(list(v, num(0), v)), val(v))...)
		checkParse(t, "g.a(lte("+s+"))", one(asked(of(api.Lte, v)))...)
		checkParse(t, "g.a(without("+s+",0,"+s+"))", one(asked(of(api.Without, v, num(0), v)))...)
		checkParse(t, "g.a(__.b("+s+"))", one(sub(call("b", val(v))))...)
	}
}

// predicates: each kind, in many shapes, each by its text.
func predicates() map[string]api.Pred {
	return map[string]api.Pred{
		"eq(1)":                             eq(1),
		"neq('a')":                          of(api.Neq, text("a")),
		"lt(-1)":                            of(api.Lt, num(-1)),
		"lte([1, []])":                      of(api.Lte, list(num(1), list())),
		"gt(30)":                            of(api.Gt, num(30)),
		"gte(false)":                        of(api.Gte, flag(false)),
		"between(1, 2)":                     of(api.Between, num(1), num(2)),
		"inside('a','b')":                   of(api.Inside, text("a"), text("b")),
		"outside(2, [1])":                   of(api.Outside, num(2), list(num(1))),
		"within()":                          of(api.Within),
		"within(1)":                         of(api.Within, num(1)),
		`within(1, '\\', [true])`:           of(api.Within, num(1), text(`\`), list(flag(true))),
		"without()":                         of(api.Without),
		"without(3, 3, 3)":                  of(api.Without, num(3), num(3), num(3)),
		"not(eq(1))":                        not(eq(1)),
		"not(not(within()))":                not(not(of(api.Within))),
		"and(eq(1), eq(2))":                 made(api.And, eq(1), eq(2)),
		"and(eq(1),not(eq(2)),eq(3))":       made(api.And, eq(1), not(eq(2)), eq(3)),
		"or(eq(1), and(eq(2), gt('x')))":    made(api.Or, eq(1), made(api.And, eq(2), of(api.Gt, text("x")))),
		"or(or(eq(1), eq(2)), not(eq('')))": made(api.Or, made(api.Or, eq(1), eq(2)), not(of(api.Eq, text("")))),
	}
}

func TestPreds(t *testing.T) {
	for s, p := range predicates() {
		checkParse(t, "g.a("+s+")", one(asked(p))...)
		checkParse(t, "g.a("+s+",x,"+s+")", one(asked(p), word("x"), asked(p))...)
		checkParse(t, "g.a(not("+s+"))", one(asked(not(p)))...)
		checkParse(t, "g.a(or("+s+",eq(1),"+s+"))", one(asked(made(api.Or, p, eq(1), p)))...)
		checkParse(t, "g.a(__.b("+s+"))", one(sub(call("b", asked(p))))...)
	}
	// The names of all kinds, as they are numbered.
	for i, name := range taken()[3:] {
		kind := i + 1
		switch {
		case kind <= api.Gte:
			checkParse(t, "g.a("+name+"(1))", one(asked(of(kind, num(1))))...)
		case kind <= api.Without:
			checkParse(t, "g.a("+name+"(1,2))", one(asked(of(kind, num(1), num(2))))...)
		case kind == api.Not:
			checkParse(t, "g.a("+name+"(eq(1)))", one(asked(made(kind, eq(1))))...)
		default:
			checkParse(t, "g.a("+name+"(eq(1),eq(2)))", one(asked(made(kind, eq(1), eq(2))))...)
		}
	}
}

func TestChains(t *testing.T) {
	checkParse(t, "g.a(__.b())", one(sub(call("b")))...)
	checkParse(t, "g.a(__.b().c())", one(sub(call("b"), call("c")))...)
	checkParse(t, "g.a(__.b()).c()", call("a", sub(call("b"))), call("c"))
	checkParse(t, "g.a(__.b().c(),__.d(x))", one(sub(call("b"), call("c")), sub(call("d", word("x"))))...)
	checkParse(t, "g.a(x,__.b(__.c(__.d(-1)),[]),y)",
		one(word("x"), sub(call("b", sub(call("c", sub(call("d", val(num(-1)))))), val(list()))), word("y"))...)
	checkParse(t, "g.a(__.b(__.c()).d(__.e()).f()).h()",
		call("a", sub(call("b", sub(call("c"))), call("d", sub(call("e"))), call("f"))), call("h"))
	for n := 1; n <= api.MaxNest; n++ {
		checkParse(t, "g.a("+around("__.a(", n-1, "", ")")+")", tower(n)...)
	}
}

// Blanks between tokens say nothing, and none are as good.
func TestBlanks(t *testing.T) {
	l := chain(
		call("V", val(num(1)), val(num(-2))),
		call("is", val(list(num(1), list(), text("a b"))), asked(made(api.And, eq(1), of(api.Within)))),
		call("where", sub(call("out"), call("in", word("x_1"))), val(flag(true))))
	tokens := strings.Split("g|.|V|(|1|,|-2|)|.|is|(|[|1|,|[|]|,|'a b'|]|,|and|(|eq|(|1|)|,|within|(|)|)|)|.|where|(|__|.|out|(|)|.|in|(|x_1|)|,|true|)", "|")
	for _, blank := range []string{"", " ", "\t", "\n", "\r", "\r\n", " \t\n\r ", strings.Repeat("\n", 200)} {
		checkParse(t, strings.Join(tokens, blank), l...)
		checkParse(t, blank+strings.Join(tokens, blank)+blank, l...)
		for i := range tokens {
			checkParse(t, strings.Join(tokens[:i], "")+blank+strings.Join(tokens[i:], ""), l...)
		}
		checkTold(t, blank+"g"+blank+"."+blank+"V"+blank+"(", 4*len(blank)+4, api.ErrText)
		checkTold(t, blank+"g"+blank+"."+blank+"V"+blank+"("+blank, 5*len(blank)+4, api.ErrText)
		checkTold(t, blank+"g"+blank+"."+blank+"V"+blank+"("+blank+"]"+blank, 5*len(blank)+4, api.ErrText)
	}
	// What stands in a text, stands there.
	checkParse(t, "g.a( '  ' )", one(val(text("  ")))...)
	checkTold(t, "g.a b()", 4, api.ErrText)
	checkTold(t, "g.a(_ _.b())", 6, api.ErrText)
	checkTold(t, "g.a(tr ue)", 7, api.ErrText)
}
