package value

import (
	"cmp"
	"slices"

	"wayfarer/api"
)

// Cmp is -1, 0 or 1: a stands ahead of b, both are the same, b stands ahead.
func Cmp(a api.Value, b api.Value) int {
	return cmpAt(a, b, top)
}

// Same tells whether Cmp is 0.
func Same(a api.Value, b api.Value) bool {
	return Cmp(a, b) == 0
}

// cmpAt compares two that stand at that level. The level has an end, so even
// rows that lie within themselves have one.
func cmpAt(a, b api.Value, level int) int {
	c := cmp.Or(cmp.Compare(a.Kind, b.Kind), cmp.Compare(a.N, b.N), cmp.Compare(a.S, b.S))
	if c != 0 || level > api.MaxDepth {
		return c
	}
	below := func(x, y api.Value) int { return cmpAt(x, y, level+1) }
	if c := slices.CompareFunc(a.L, b.L, below); c != 0 {
		return c
	}
	return slices.CompareFunc(a.M, b.M, below)
}
