package graph

import (
	"slices"

	"wayfarer/api"
	"wayfarer/value"
)

// Name tells whether s may be a label or a key.
func Name(s string) bool {
	if len(s) < 1 || len(s) > api.MaxName {
		return false
	}
	for i := range len(s) {
		switch c := s[i]; {
		case 'a' <= c && c <= 'z', 'A' <= c && c <= 'Z', c == '_':
		case '0' <= c && c <= '9' && i > 0:
		default:
			return false
		}
	}
	return true
}

// Plain tells whether v may be a property's value.
func Plain(v api.Value) bool {
	// Kinds are asked for first: then there are no rows within rows left that
	// value.Check would have to go down into.
	return (isSingle(v) || isRowOfSingle(v)) && value.Check(v) == api.OK
}

// isSingle tells whether v is of a kind that may stand alone, or in a list.
func isSingle(v api.Value) bool {
	switch v.Kind {
	case api.Bool, api.Int, api.Text:
		return true
	}
	return false
}

func isRowOfSingle(v api.Value) bool {
	other := func(x api.Value) bool { return !isSingle(x) }
	return v.Kind == api.List && !slices.ContainsFunc(v.L, other)
}
