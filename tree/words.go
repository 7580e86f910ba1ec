package tree

import "wayfarer/api"

// What texts are made of.
const (
	truth, untruth  = "true", "false"
	whole, inner    = "g", "__" // what a chain begins with, in no other one and in one
	dot, comma      = ".", ", "
	args, endOfArgs = "(", ")"
	list, endOfList = "[", "]"

	quote, backslash = '\'', '\\'

	// The first byte that may stand in a text.
	firstPlain = 32
)

// names: of predicates, by their kinds.
var names = [...]string{
	api.Eq:      "eq",
	api.Neq:     "neq",
	api.Lt:      "lt",
	api.Lte:     "lte",
	api.Gt:      "gt",
	api.Gte:     "gte",
	api.Between: "between",
	api.Inside:  "inside",
	api.Outside: "outside",
	api.Within:  "within",
	api.Without: "without",
	api.Not:     "not",
	api.And:     "and",
	api.Or:      "or",
}

// isTaken tells whether an argument that is s, or begins with it, is something
// else than a word.
func isTaken(s string) bool {
	for _, name := range names {
		if s == name {
			return true
		}
	}
	return s == truth || s == untruth || s == inner
}
