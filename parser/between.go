package parser

import "wayfarer/api"

// amount is how many stand between two signs: least, or more than these, too.
type amount struct {
	least int
	more  bool
}

// enough tells whether n may be all.
func (a amount) enough(n int) bool {
	return n >= a.least
}

// another tells whether one more may follow n. A limit is not asked for here:
// it is the one behind the comma that is above it.
func (a amount) another(n int) bool {
	return n < a.least || a.more
}

// between reads what stands between two signs, with commas between. Each is
// read by a function, which is told how many there are ahead.
func between[T any](r *row, first string, a amount, read func(int) (T, api.Errno), last string) ([]T, api.Errno) {
	if !r.take(first) {
		return nil, api.ErrText
	}
	var l []T
	for !(a.enough(len(l)) && r.take(last)) {
		if len(l) > 0 && !(a.another(len(l)) && r.take(comma)) {
			return nil, api.ErrText
		}
		x, e := read(len(l))
		if e != api.OK {
			return nil, e
		}
		l = append(l, x)
	}
	return l, api.OK
}
