package parser_test

import (
	"slices"
	"strings"
	"testing"

	"wayfarer/api"
)

// firsts: tokens that are the first of one more argument, or value, where there
// are as many as may be, whatever they are.
func firsts() []string {
	return append([]string{"1", "-2", "'a'", "''", "[", "x", "g", letters(api.MaxName), letters(api.MaxName + 1)}, taken()...)
}

// others: tokens that are not.
func others() []string { return []string{",", "]", ")", "(", "."} }

func TestMaxCalls(t *testing.T) {
	most := "g" + strings.Repeat(".x()", api.MaxCalls)
	checkParse(t, most, slices.Repeat(chain(call("x")), api.MaxCalls)...)
	for _, s := range []string{"x", "g", "true", "eq", "_", letters(api.MaxName)} {
		checkLong(t, most+".", s, "")
		checkLong(t, most+" .\n", s, "()")
		checkLong(t, most+".", s, "().")
		checkLong(t, most+".", s, ".)")
	}
	// Of what is no call's name there is not one more.
	checkEnd(t, most+".")
	for _, s := range []string{"__", letters(api.MaxName + 1), "1", "'x'", "(", ")", ",", ".", "[", "]"} {
		checkWrong(t, most+".", s, "()")
	}
	for _, s := range []string{"x", "1", "'x'", ")", "("} {
		checkWrong(t, most+" ", s, "()")
	}
}

// Calls are counted in the order in which they are named, in whatever chain.
func TestMaxCallsOverChains(t *testing.T) {
	for _, in := range []int{1, 2, 50, api.MaxCalls - 2, api.MaxCalls - 1} {
		inner := strings.Repeat(".y()", in)
		outer := strings.Repeat(".x()", api.MaxCalls-1-in)
		check(t, "g.w(__"+inner+")"+outer)
		checkRound(t, "g.w(__"+inner+")"+outer, "g.w(__"+inner+")"+outer)
		checkLong(t, "g.w(__"+inner+")"+outer+".", "x", "()")
		checkRound(t, "g"+outer+".w(__"+inner+")", "g"+outer+".w(__"+inner+")")
		checkLong(t, "g"+outer+".w(__"+inner+".", "y", "())")
		checkLong(t, "g"+outer+".w(__"+inner+").", "x", "()")
		checkLong(t, "g"+outer+".w(__"+inner+",__.", "z", "())")
	}
	// A call counts from its name on: those in its arguments come behind it.
	most := "g" + strings.Repeat(".x()", api.MaxCalls-1)
	checkRound(t, most+".y(1)", most+".y(1)")
	checkLong(t, most+".y(__.", "z", "())")
	checkWrong(t, most+".y(__.", "__", "())")
	checkEnd(t, most+".y(__")
	checkEnd(t, most+".y(__.")
	deep := strings.Repeat(".x()", api.MaxCalls/api.MaxNest-1) + ".y("
	checkRound(t, "g"+around(deep+"__", api.MaxNest-1, deep, ")")+")", "g"+around(deep+"__", api.MaxNest-1, deep, ")")+")")
	checkLong(t, "g"+strings.Repeat(deep+"__", api.MaxNest-1)+deep+strings.Repeat(")", api.MaxNest)+".", "z", "()")
}

func TestMaxArgs(t *testing.T) {
	for s, a := range map[string]api.Arg{"1": val(num(1)), "y": word("y"), "'a'": val(text("a")), "[]": val(list()), "true": val(flag(true)), "eq(1)": asked(eq(1)), "__.y()": sub(call("y"))} {
		for _, ahead := range []string{"g.a(", "g.x().a("} {
			most := ahead + row(s, api.MaxArgs)
			if ahead == "g.a(" {
				checkParse(t, most+")", one(slices.Repeat([]api.Arg{a}, api.MaxArgs)...)...)
			}
			check(t, most+")")
			for _, x := range firsts() {
				checkLong(t, most+",", x, "")
				checkLong(t, most+" , ", x, ")")
				checkWrong(t, most+" ", x, ")")
			}
			checkEnd(t, most+",")
			for _, x := range others() {
				checkWrong(t, most+",", x, ")")
			}
			checkWrong(t, most+"", "]", ")")
		}
	}
	// Each call has as many.
	most := row("1", api.MaxArgs)
	q := "g.a(" + most + ").a(" + row("1", api.MaxArgs-1) + ",__.a(" + most + ").a(" + most + "))"
	check(t, q)
	checkRound(t, q, strings.ReplaceAll(q, ",", ", "))
	checkLong(t, q+".b("+most+",", "1", ")")
	checkLong(t, "g.a(__.b("+most+",", "1", "))")
	checkLong(t, "g.a("+row("__.b("+most+")", api.MaxArgs)+",", "__", ".b())")
}

// full: what is around as many items as may be.
type full struct {
	ahead, item, behind string
}

func TestMaxItems(t *testing.T) {
	for _, x := range []full{{"g.a([", "0", "])"}, {"g.a([", "[]", "])"}, {"g.a([", "''", "])"}, {"g.a([", "true", "])"}, {"g.a([[],[", "1", "],2])"},
		{"g.a(within(", "0", "))"}, {"g.a(without(", "[]", "))"}, {"g.a(not(without(", "''", ")))"}, {"g.a(eq([", "0", "]))"}, {"g.a(between(1,[", "0", "]))"},
		{"g.a(__.b([", "false", "]))"}, {"g.a(within([", "1", "]))"}} {
		most := x.ahead + row(x.item, api.MaxItems)
		checkRound(t, most+x.behind, strings.ReplaceAll(most+x.behind, ",", ", "))
		for _, s := range firsts() {
			checkLong(t, most+",", s, "")
			checkLong(t, most+", ", s, x.behind)
			checkWrong(t, most+" ", s, x.behind)
		}
		checkEnd(t, most)
		checkEnd(t, most+",")
		for _, s := range others() {
			checkWrong(t, most+",", s, x.behind)
		}
	}
	checkParse(t, "g.a(["+row("0", api.MaxItems)+"])", one(val(list(slices.Repeat([]api.Value{num(0)}, api.MaxItems)...)))...)
	checkParse(t, "g.a(within("+row("0", api.MaxItems)+"))", one(asked(of(api.Within, slices.Repeat([]api.Value{num(0)}, api.MaxItems)...)))...)
	// Each list has as many.
	check(t, "g.a([["+row("1", api.MaxItems)+"],["+row("2", api.MaxItems)+"]],["+row("3", api.MaxItems)+"])")
}

func TestMaxItemsOfPreds(t *testing.T) {
	for _, x := range []full{{"g.a(and(", "eq(1)", "))"}, {"g.a(or(", "within()", "))"}, {"g.a(not(or(eq(1),and(", "gt(1)", "))))"}, {"g.a(__.b(or(", "not(eq(1))", ")))"}} {
		most := x.ahead + row(x.item, api.MaxItems)
		checkRound(t, most+x.behind, strings.ReplaceAll(most+x.behind, ",", ", "))
		for _, s := range taken()[3:] {
			checkLong(t, most+",", s, "")
			checkLong(t, most+" ,\t", s, x.behind)
			checkWrong(t, most+" ", s, x.behind)
		}
		checkEnd(t, most)
		checkEnd(t, most+",")
		for _, s := range append(others(), "1", "'eq'", "[", "x", "g", "true", "false", "__", letters(api.MaxName+1)) {
			checkWrong(t, most+",", s, x.behind)
		}
	}
	checkParse(t, "g.a(or("+row("eq(1)", api.MaxItems)+"))", one(asked(made(api.Or, slices.Repeat([]api.Pred{eq(1)}, api.MaxItems)...)))...)
}

// The kinds that have one, or two, have no limit that could be in the way.
func TestMoreThanAKindHas(t *testing.T) {
	for _, n := range []int{2, 3, api.MaxItems, api.MaxItems + 1} {
		checkWrong(t, "g.a(eq(1", ",", row("1", n-1)+"))")
		checkWrong(t, "g.a(not(eq(1)", ",", row("eq(1)", n-1)+"))")
		if n > 2 {
			checkWrong(t, "g.a(between(1,1", ",", row("1", n-2)+"))")
		}
	}
}

func TestMaxNest(t *testing.T) {
	for _, x := range [][2]string{{"__.a(", ")"}, {"1,__.b().a(x,", ",y)"}, {"__.b(),__.a(", ").c()"}} {
		ahead, behind := x[0], x[1]
		check(t, "g.a("+around(ahead, api.MaxNest-1, "", behind)+")")
		check(t, "g.a("+around(ahead, api.MaxNest-1, "1", behind)+")")
		full := "g.a(" + strings.Repeat(ahead, api.MaxNest-1)
		checkLong(t, full, "__", "")
		checkLong(t, full, "__", ".b()"+strings.Repeat(behind, api.MaxNest-1)+")")
		checkLong(t, full, "__", ")")
		checkLong(t, full+"1,", "__", ".b()")
		checkLong(t, full+"[],eq(1),z,", "__", ".b()")
		// All but a chain may stand there.
		for _, a := range []string{"true", "'__'", "[1,[]]", "not(eq(1))", "z", "___"} {
			check(t, "g.a("+around(ahead, api.MaxNest-1, a, behind)+")")
		}
	}
	checkParse(t, "g.a("+around("__.a(", api.MaxNest-1, "", ")")+")", tower(api.MaxNest)...)
	// Those side by side are not within one another.
	deep := around("__.a(", api.MaxNest-1, "", ")")
	check(t, "g.a("+deep+","+deep+").a("+deep+","+deep+")")
	checkLong(t, "g.a("+deep+").a("+strings.Repeat("__.a(", api.MaxNest-1), "__", ".a()")
}

func TestMaxDepthOfValues(t *testing.T) {
	for _, x := range [][2]string{{"g.a(", ")"}, {"g.b().a(1,", ",2)"}, {"g.a(eq(", "))"}, {"g.a(between([],", "))"}, {"g.a(within(1,", ",2))"}, {"g.a(__.b(", "))"},
		{"g.a(" + strings.Repeat("not(", api.MaxDepth-1) + "eq(", "))" + strings.Repeat(")", api.MaxDepth-1)}} {
		ahead, behind := x[0], x[1]
		lists := strings.Repeat("[", api.MaxDepth)
		ends := strings.Repeat("]", api.MaxDepth) + behind
		check(t, ahead+lists+ends)
		checkRound(t, ahead+lists+ends, strings.ReplaceAll(ahead+lists+ends, ",", ", "))
		for _, s := range []string{"1", "-2", "'a'", "true", "false", "["} {
			check(t, ahead+lists[1:]+s+strings.Repeat("]", strings.Count(s, "["))+ends[1:])
			checkLong(t, ahead+lists, s, "")
			checkLong(t, ahead+lists, s, ends)
			checkLong(t, ahead+lists[1:]+"1,[],[", s, ends)
		}
		// Of what is no value, none is too deep.
		for _, s := range []string{"x", "g", "__", "eq", "and", ",", "(", ")", ".", letters(api.MaxName + 1)} {
			checkWrong(t, ahead+lists, s, ends)
		}
		checkLong(t, ahead+lists, "[", strings.Repeat("[", 5000))
		checkEnd(t, ahead+lists)
	}
	checkParse(t, "g.a("+around("[", api.MaxDepth, "", "]")+")", one(val(within(list(), api.MaxDepth-1)))...)
	checkParse(t, "g.a("+around("[", api.MaxDepth-1, "7", "]")+")", one(val(within(num(7), api.MaxDepth-1)))...)
	deep := around("[", api.MaxDepth, "", "]")
	check(t, "g.a("+deep+","+deep+",within("+deep+","+deep+"),["+deep[1:len(deep)-1]+","+deep[1:len(deep)-1]+"])")
}

func TestMaxDepthOfPreds(t *testing.T) {
	for _, x := range [][2]string{{"not(", ")"}, {"and(eq(1),", ")"}, {"or(", ",eq(1))"}, {"or(eq(1),within(),", ",lt(1))"}} {
		for _, y := range [][2]string{{"g.a(", ")"}, {"g.b().a(1,", ",2)"}, {"g.a(__.b(", "))"}} {
			full := y[0] + strings.Repeat(x[0], api.MaxDepth-1)
			ends := strings.Repeat(x[1], api.MaxDepth-1) + y[1]
			check(t, full+"eq(1)"+ends)
			checkRound(t, full+"within([1])"+ends, strings.ReplaceAll(full+"within([1])"+ends, ",", ", "))
			checkWrong(t, full, "y", ends)
			checkMaxDepthOfPreds(t, full, ends)
		}
	}
	checkParse(t, "g.a("+around("not(", api.MaxDepth-1, "eq(1)", ")")+")", one(asked(nots(eq(1), api.MaxDepth-1)))...)
	checkLong(t, "g.a("+strings.Repeat("not(", api.MaxDepth), "not", strings.Repeat("(not", 3000))
	deep := around("not(", api.MaxDepth-2, "eq(1)", ")")
	check(t, "g.a(and("+deep+","+deep+"),or("+deep+","+deep+"))")
}

// checkMaxDepthOfPreds: one that is as deep as may be has none in it.
func checkMaxDepthOfPreds(t *testing.T, full, ends string) {
	t.Helper()
	for _, deepest := range []string{"not(", "and(", "or("} {
		for _, s := range taken()[3:] {
			checkLong(t, full+deepest, s, "")
			checkLong(t, full+deepest, s, "(1))"+ends)
		}
		for _, s := range []string{"x", "true", "__", "1", "'eq'", "[", "]", ")", "(", ",", "."} {
			checkWrong(t, full+deepest, s, ")"+ends)
		}
		checkEnd(t, full+deepest)
	}
}

// Two limits at once, and one limit ahead of another one.
func TestTheFirstLimitIsTold(t *testing.T) {
	most := "g.x(" + row("1", api.MaxArgs) + ","
	checkLong(t, most, "__", ".y("+row("1", api.MaxArgs+1)+"))")
	checkLong(t, most, "[", strings.Repeat("[", api.MaxDepth)+row("1", api.MaxItems+1))
	checkLong(t, "g.x("+strings.Repeat("[", api.MaxDepth), "[", "]),"+row("1", api.MaxArgs+1)+")")
	checkLong(t, "g"+strings.Repeat(".x()", api.MaxCalls)+".", "x", "("+row("1", api.MaxArgs+1)+")")
	checkLong(t, "g"+strings.Repeat(".x()", api.MaxCalls-1)+".x("+row("1", api.MaxArgs)+",", "1", ").x()")
	checkLong(t, "g.x("+strings.Repeat("__.a(", api.MaxNest-1)+row("1", api.MaxArgs)+",", "__", ".x()")
	// What is wrong ahead of a limit is told, and what is wrong behind it is not.
	checkWrong(t, "g.x().", "(", strings.Repeat(".x()", api.MaxCalls+1))
	checkWrong(t, "g.x(", ",", row("1", api.MaxArgs+1)+")")
	checkLong(t, "g"+strings.Repeat(".x()", api.MaxCalls)+".", "x", "((((")
	checkLong(t, most, "1", "((((")
}
