package value

import (
	"slices"

	"wayfarer/api"
)

// Check is ErrArg, unless v is a value.
func Check(v api.Value) api.Errno {
	if !isValue(v, top) {
		return api.ErrArg
	}
	return api.OK
}

func isValue(v api.Value, level int) bool {
	if level > api.MaxDepth || !fits(v) {
		return false
	}
	wrong := func(x api.Value) bool { return !isValue(x, level+1) }
	if slices.ContainsFunc(v.L, wrong) || slices.ContainsFunc(v.M, wrong) {
		return false
	}
	return v.Kind != api.Map || rises(v.L)
}

// fits tells whether v has the fields of its kind, and none else, whatever
// its items are.
func fits(v api.Value) bool {
	noItems := len(v.L) == 0 && len(v.M) == 0
	switch v.Kind {
	case api.Bool:
		return (v.N == 0 || v.N == 1) && v.S == "" && noItems
	case api.Int:
		return v.S == "" && noItems
	case api.Text:
		return v.N == 0 && len(v.S) <= api.MaxText && noItems
	case api.Vertex, api.Edge:
		return v.N >= 0 && v.S == "" && noItems
	case api.List, api.Path:
		return v.N == 0 && v.S == "" && len(v.L) <= api.MaxItems && len(v.M) == 0
	case api.Map:
		return v.N == 0 && v.S == "" && len(v.L) <= api.MaxItems && len(v.M) == len(v.L)
	}
	return false
}

// rises tells whether each key stands ahead of the next one.
func rises(keys []api.Value) bool {
	for i := 1; i < len(keys); i++ {
		if Cmp(keys[i-1], keys[i]) >= 0 {
			return false
		}
	}
	return true
}

// Depth is how deep v is, or MaxDepth and 1, if it is deeper than that.
func Depth(v api.Value) int {
	return deepest(v, top)
}

// deepest is the lowest level at which anything in v stands, if v stands at
// that level. Any kind may have items here: what is no value has a depth, too.
func deepest(v api.Value, level int) int {
	lowest := level
	for _, row := range [][]api.Value{v.L, v.M} {
		for _, item := range row {
			// Too deep is too deep: to look further would tell nothing more,
			// and need not come to an end.
			if lowest > api.MaxDepth {
				return lowest
			}
			lowest = max(lowest, deepest(item, level+1))
		}
	}
	return lowest
}
