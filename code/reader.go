package code

import (
	"strings"

	"wayfarer/api"
	"wayfarer/ints"
	"wayfarer/value"
)

// top is the level at which a value stands that lies in no other one; its
// items stand one below it.
const top = 1

// reader is a text, and how much of it is read.
type reader struct {
	s  string
	at int
}

func (r *reader) atEnd() bool {
	return r.at == len(r.s)
}

// peek is the byte that is to be read. At the end it is 0: that byte is
// nowhere in the text of a value, so neither is told from the other.
func (r *reader) peek() byte {
	if r.atEnd() {
		return 0
	}
	return r.s[r.at]
}

// next reads a byte.
func (r *reader) next() byte {
	c := r.peek()
	if !r.atEnd() {
		r.at++
	}
	return c
}

// take reads these bytes, if they stand there, and tells whether they did.
func (r *reader) take(s string) bool {
	if !strings.HasPrefix(r.s[r.at:], s) {
		return false
	}
	r.at += len(s)
	return true
}

// read reads a value that stands at that level. It ends at what is beyond a
// limit, so that what is read stays small, however long the text is; whether
// keys rise, and the like, it does not ask.
func (r *reader) read(level int) (api.Value, bool) {
	if level > api.MaxDepth {
		return api.Value{}, false
	}
	switch c := r.peek(); {
	case ofNumber(c):
		n, ok := r.number()
		return value.Number(n), ok
	case c == quote:
		s, ok := r.text()
		return value.Word(s), ok
	case 'a' <= c && c <= 'z':
		return r.named(level)
	case r.take(list):
		return r.row(api.List, level)
	case r.take(dict):
		return r.dict(level)
	}
	return api.Value{}, false
}

// named reads a value whose text begins with a letter.
func (r *reader) named(level int) (api.Value, bool) {
	switch {
	case r.take(truth):
		return value.Truth(true), true
	case r.take(untruth):
		return value.Truth(false), true
	case r.take(vertex):
		return r.thing(api.Vertex)
	case r.take(edge):
		return r.thing(api.Edge)
	case r.take(path):
		return r.row(api.Path, level)
	}
	return api.Value{}, false
}

func (r *reader) number() (int, bool) {
	from := r.at
	for ofNumber(r.peek()) {
		r.at++
	}
	n, e := ints.Parse(r.s[from:r.at])
	return n, e == api.OK
}

func ofNumber(c byte) bool {
	return c == '-' || '0' <= c && c <= '9'
}

// thing reads what stands behind the beginning of a vertex or an edge.
func (r *reader) thing(kind int) (api.Value, bool) {
	n, ok := r.number()
	return api.Value{Kind: kind, N: n}, ok && r.take(endOfRow)
}

// row reads what stands behind the beginning of a list or a path at that level.
func (r *reader) row(kind int, level int) (api.Value, bool) {
	v := api.Value{Kind: kind}
	ok := r.items(endOfRow, func() bool {
		item, ok := r.read(level + 1)
		v.L = append(v.L, item)
		return ok
	})
	return v, ok
}

// dict reads what stands behind the beginning of a map at that level.
func (r *reader) dict(level int) (api.Value, bool) {
	v := api.Value{Kind: api.Map}
	ok := r.items(endOfDict, func() bool {
		key, ok := r.read(level + 1)
		if !ok || !r.take(colon) {
			return false
		}
		item, ok := r.read(level + 1)
		v.L, v.M = append(v.L, key), append(v.M, item)
		return ok
	})
	return v, ok
}

// items reads as many items as there are, each by one, and the end of them.
func (r *reader) items(end string, one func() bool) bool {
	if r.take(end) {
		return true
	}
	for range api.MaxItems {
		if !one() {
			return false
		}
		if r.take(end) {
			return true
		}
		if !r.take(comma) {
			return false
		}
	}
	return false
}
