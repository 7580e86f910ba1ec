package value

import (
	"slices"

	"wayfarer/api"
)

type pair struct {
	key, value api.Value
}

// Dict is the Map of keys and values, one behind the other.
func Dict(l ...api.Value) (api.Value, api.Errno) {
	if len(l)%2 != 0 {
		return api.Value{}, api.ErrArg
	}
	m := mapOf(pairsOf(l))
	if Check(m) != api.OK {
		return api.Value{}, api.ErrArg
	}
	// Till here its items are those that were handed in.
	return Copy(m), api.OK
}

func pairsOf(l []api.Value) []pair {
	pairs := make([]pair, 0, len(l)/2)
	for i := 0; i < len(l); i += 2 {
		pairs = append(pairs, pair{l[i], l[i+1]})
	}
	return pairs
}

// mapOf lays pairs into a Map; it puts them into their order on the way.
func mapOf(pairs []pair) api.Value {
	// Stable, so that of the pairs of one key the last one stays the last.
	slices.SortStableFunc(pairs, func(a, b pair) int { return Cmp(a.key, b.key) })
	m := api.Value{Kind: api.Map}
	for _, p := range pairs {
		last := len(m.L) - 1
		if last >= 0 && Same(m.L[last], p.key) {
			m.M[last] = p.value
			continue
		}
		m.L, m.M = append(m.L, p.key), append(m.M, p.value)
	}
	return m
}
