package parser

import "wayfarer/api"

// What queries are made of.
const (
	truth, untruth  = "true", "false"
	whole, inner    = "g", "__" // what a chain begins with, in no other one and in one
	dot, comma      = ".", ","
	args, endOfArgs = "(", ")"
	list, endOfList = "[", "]"
)

// isName tells whether t is that name; a text of the same bytes is none.
func isName(t api.Token, name string) bool {
	return t.Kind == api.TokName && t.S == name
}

// predKind is the kind of the predicate that begins with t, or 0, if none does.
func predKind(t api.Token) int {
	if t.Kind != api.TokName {
		return 0
	}
	switch t.S {
	case "eq":
		return api.Eq
	case "neq":
		return api.Neq
	case "lt":
		return api.Lt
	case "lte":
		return api.Lte
	case "gt":
		return api.Gt
	case "gte":
		return api.Gte
	case "between":
		return api.Between
	case "inside":
		return api.Inside
	case "outside":
		return api.Outside
	case "within":
		return api.Within
	case "without":
		return api.Without
	case "not":
		return api.Not
	case "and":
		return api.And
	case "or":
		return api.Or
	}
	return 0
}
