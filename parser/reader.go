package parser

import (
	"wayfarer/api"
	"wayfarer/graph"
)

// top is the level at which a chain, a predicate or a value stands that is in
// no other one; what is in it stands one below.
const top = 1

// reader reads a query's tokens. What it does not read is the first one left
// when it tells so.
type reader struct {
	row
	calls int // how many have a name so far
}

func (r *reader) query() ([]api.Call, api.Errno) {
	if !isName(r.next(), whole) {
		return nil, api.ErrText
	}
	r.skip()
	l, e := r.chain(top)
	if e == api.OK && len(r.left) > 0 {
		return nil, api.ErrText
	}
	return l, e
}

// chain reads the calls of a chain that stands at that level, but not what the
// chain begins with.
func (r *reader) chain(level int) ([]api.Call, api.Errno) {
	var l []api.Call
	for len(l) == 0 || r.sees(dot) {
		c, e := r.call(level)
		if e != api.OK {
			return nil, e
		}
		l = append(l, c)
	}
	return l, api.OK
}

// call reads a call of a chain that stands at that level.
func (r *reader) call(level int) (api.Call, api.Errno) {
	if !r.take(dot) {
		return api.Call{}, api.ErrText
	}
	name, e := r.callName()
	if e != api.OK {
		return api.Call{}, e
	}
	arg := func(had int) (api.Arg, api.Errno) {
		if had == api.MaxArgs {
			return api.Arg{}, r.tooMany()
		}
		return r.arg(level)
	}
	l, e := between(&r.row, args, amount{more: true}, arg, endOfArgs)
	return api.Call{Name: name, Args: l}, e
}

func (r *reader) callName() (string, api.Errno) {
	t := r.next()
	if t.Kind != api.TokName || t.S == inner || !graph.Name(t.S) {
		return "", api.ErrText
	}
	if r.calls == api.MaxCalls {
		return "", api.ErrLong
	}
	r.calls++
	r.skip()
	return t.S, api.OK
}

// arg reads an argument of a call of a chain that stands at that level.
func (r *reader) arg(level int) (api.Arg, api.Errno) {
	switch t := r.next(); {
	case beginsValue(t):
		v, e := r.value(top)
		return api.Arg{Kind: api.ArgValue, V: v}, e
	case predKind(t) != 0:
		p, e := r.pred(top)
		return api.Arg{Kind: api.ArgPred, P: p}, e
	case isName(t, inner):
		l, e := r.innerChain(level + 1)
		return api.Arg{Kind: api.ArgChain, C: l}, e
	case t.Kind == api.TokName && graph.Name(t.S):
		r.skip()
		return api.Arg{Kind: api.ArgWord, S: t.S}, api.OK
	}
	return api.Arg{}, api.ErrText
}

// innerChain reads a chain that stands at that level in another one.
func (r *reader) innerChain(level int) ([]api.Call, api.Errno) {
	if level > api.MaxNest {
		return nil, api.ErrLong
	}
	r.skip()
	return r.chain(level)
}
