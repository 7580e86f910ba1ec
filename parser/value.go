package parser

import "wayfarer/api"

// value reads a value that stands at that level.
func (r *reader) value(level int) (api.Value, api.Errno) {
	t := r.next()
	if !beginsValue(t) {
		return api.Value{}, api.ErrText
	}
	if level > api.MaxDepth {
		return api.Value{}, api.ErrLong
	}
	if t.Kind == api.TokSign {
		l, e := r.values(list, amount{more: true}, level+1, endOfList)
		return api.Value{Kind: api.List, L: l}, e
	}
	r.skip()
	return single(t), api.OK
}

// beginsValue tells whether t is the first token of a value.
func beginsValue(t api.Token) bool {
	switch t.Kind {
	case api.TokNumber, api.TokText:
		return true
	case api.TokName:
		return t.S == truth || t.S == untruth
	case api.TokSign:
		return t.S == list
	}
	return false
}

// single is the value that is written as t alone.
func single(t api.Token) api.Value {
	switch {
	case t.Kind == api.TokNumber:
		return api.Value{Kind: api.Int, N: t.N}
	case t.Kind == api.TokText:
		return api.Value{Kind: api.Text, S: t.S}
	case t.S == truth:
		return api.Value{Kind: api.Bool, N: 1}
	}
	return api.Value{Kind: api.Bool}
}

// values reads values that stand at that level, between two signs.
func (r *reader) values(first string, a amount, level int, last string) ([]api.Value, api.Errno) {
	one := func(had int) (api.Value, api.Errno) {
		if had == api.MaxItems {
			return api.Value{}, r.tooMany()
		}
		return r.value(level)
	}
	return between(&r.row, first, a, one, last)
}
