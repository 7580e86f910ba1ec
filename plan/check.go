package plan

import (
	"slices"

	"wayfarer/api"
	"wayfarer/graph"
	"wayfarer/pred"
	"wayfarer/value"
)

// Check is ErrArg, unless l is a plan.
func Check(l []api.Step) api.Errno {
	// How many there are is asked first: of what has no end, or is very wide,
	// only so much is then gone through.
	if Steps(l) > api.MaxSteps || Nest(l) > mostNest || !isPlan(l) {
		return api.ErrArg
	}
	return api.OK
}

func isPlan(l []api.Step) bool {
	for i := range l {
		// The step itself is asked ahead of the plans in it: of these there are
		// then not too many to go through.
		if !isStep(&l[i]) {
			return false
		}
		for p := range plans(&l[i]) {
			if !isPlan(p) {
				return false
			}
		}
	}
	return true
}

// isStep tells whether x is a step, whatever the plans in it are.
func isStep(x *api.Step) bool {
	return isOp(x.Op) && shapeOf(x.Op).fits(x) && agrees(x) &&
		areNames(x.S) && areNames(x.As) && areBys(x)
}

// fits tells whether x has the fields of that shape, and none else.
func (s shape) fits(x *api.Step) bool {
	return s.texts.allows(len(x.S)) && s.numbers.allows(len(x.N)) &&
		s.plans.allows(len(x.T)) && s.bys.allows(len(x.By)) && many.allows(len(x.As)) &&
		s.fitsValue(x.V) && s.fitsPred(x.P)
}

func (s shape) fitsValue(v api.Value) bool {
	if s.value {
		return value.Check(v) == api.OK
	}
	return value.Same(v, api.Value{})
}

func (s shape) fitsPred(p api.Pred) bool {
	if s.pred {
		return pred.Check(p) == api.OK
	}
	return p.Kind == 0 && len(p.V) == 0 && len(p.P) == 0
}

// agrees tells of x, which has its fields, whether they agree with one another.
func agrees(x *api.Step) bool {
	switch x.Op {
	case api.OpV, api.OpE, api.OpTail:
		return !slices.ContainsFunc(x.N, func(n int) bool { return n < 0 })
	case api.OpRange:
		low, high := x.N[0], x.N[1]
		return low >= 0 && (high == endless || high >= low)
	case api.OpRepeat:
		times, emit := x.N[0], x.N[1]
		// Without a second plan nothing else would end it.
		until := len(x.T) == 2
		return (times >= 0 || times == endless && until) && (emit == 0 || emit == 1)
	case api.OpProject:
		return differ(x.S) && len(x.By) <= len(x.S)
	}
	return true
}

// differ tells whether none is there twice.
func differ(l []string) bool {
	for i, s := range l {
		if slices.Contains(l[:i], s) {
			return false
		}
	}
	return true
}

func areNames(l []string) bool {
	other := func(s string) bool { return !graph.Name(s) }
	return !slices.ContainsFunc(l, other)
}

// areBys tells whether x has By alone that may be, whatever their plans are.
func areBys(x *api.Step) bool {
	other := func(b api.By) bool { return !isBy(b) || b.Desc && x.Op != api.OpOrder }
	return !slices.ContainsFunc(x.By, other)
}

func isBy(b api.By) bool {
	switch b.Kind {
	case api.ByValue:
		return b.Key == "" && len(b.T) == 0
	case api.ByKey:
		return graph.Name(b.Key) && len(b.T) == 0
	case api.ByChain:
		return b.Key == ""
	}
	return false
}
