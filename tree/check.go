package tree

import (
	"slices"

	"wayfarer/api"
	"wayfarer/graph"
	"wayfarer/pred"
	"wayfarer/rows"
	"wayfarer/value"
)

// Check is ErrArg, unless l is a chain.
func Check(l []api.Call) api.Errno {
	// How many there are is asked first: of what has no end, or is very wide,
	// only so much is then gone through.
	if Calls(l) > api.MaxCalls || Nest(l) > api.MaxNest || !isChain(l) {
		return api.ErrArg
	}
	return api.OK
}

func isChain(l []api.Call) bool {
	other := func(c api.Call) bool { return !isCall(c) }
	return len(l) > 0 && !slices.ContainsFunc(l, other)
}

func isCall(c api.Call) bool {
	other := func(a api.Arg) bool { return !isArg(a) }
	return graph.Name(c.Name) && c.Name != inner &&
		len(c.Args) <= api.MaxArgs && !slices.ContainsFunc(c.Args, other)
}

func isArg(a api.Arg) bool {
	if !fits(a) {
		return false
	}
	switch a.Kind {
	case api.ArgValue:
		return value.Check(a.V) == api.OK && isWritten(a.V)
	case api.ArgPred:
		return pred.Check(a.P) == api.OK && isWrittenPred(a.P)
	case api.ArgChain:
		return isChain(a.C)
	case api.ArgWord:
		return graph.Name(a.S) && !isTaken(a.S)
	}
	return false
}

// fits tells whether a has no field that another kind has.
func fits(a api.Arg) bool {
	return (a.Kind == api.ArgValue || value.Same(a.V, api.Value{})) &&
		(a.Kind == api.ArgPred || rows.SamePreds(a.P, api.Pred{})) &&
		(a.Kind == api.ArgChain || len(a.C) == 0) &&
		(a.Kind == api.ArgWord || a.S == "")
}

// isWritten tells whether v, which is a value, may be written.
func isWritten(v api.Value) bool {
	switch v.Kind {
	case api.Bool, api.Int:
		return true
	case api.Text:
		return isWrittenText(v.S)
	case api.List:
		return areWritten(v.L)
	}
	return false
}

func areWritten(l []api.Value) bool {
	other := func(v api.Value) bool { return !isWritten(v) }
	return !slices.ContainsFunc(l, other)
}

func isWrittenText(s string) bool {
	for i := range len(s) {
		if s[i] < firstPlain {
			return false
		}
	}
	return true
}

// isWrittenPred tells whether all values of p, which is a predicate, may be
// written.
func isWrittenPred(p api.Pred) bool {
	other := func(x api.Pred) bool { return !isWrittenPred(x) }
	return areWritten(p.V) && !slices.ContainsFunc(p.P, other)
}
