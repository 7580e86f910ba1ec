package lexer

import "wayfarer/api"

// query is the bytes of a query.
type query string

// each hands on the tokens, one by one, as long as they are wanted. The first
// that is none comes last: its place alone, and false.
func (q query) each(yield func(api.Token, bool) bool) {
	for at := q.pastBlanks(0); at < len(q); {
		t, length, ok := first(string(q[at:]))
		t.At = at
		if !yield(t, ok) || !ok {
			return
		}
		at = q.pastBlanks(at + length)
	}
}

// pastBlanks is where the blanks end that stand at that place, if any do.
func (q query) pastBlanks(at int) int {
	for at < len(q) && blank(q[at]) {
		at++
	}
	return at
}

func blank(c byte) bool {
	switch c {
	case ' ', '\t', '\n', '\r':
		return true
	}
	return false
}
