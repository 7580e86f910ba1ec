package code

import (
	"wayfarer/api"
)

// text reads what stands between two quotes, and these.
func (r *reader) text() (string, bool) {
	r.next()
	var b []byte
	for len(b) <= api.MaxText {
		switch c := r.next(); {
		case c == quote:
			return string(b), true
		case c == backslash:
			meant, ok := r.meant()
			if !ok {
				return "", false
			}
			b = append(b, meant)
		case c < firstPlain || c > lastPlain:
			return "", false
		default:
			b = append(b, c)
		}
	}
	return "", false
}

// meant reads what stands behind a backslash, and is the byte that it tells.
func (r *reader) meant() (byte, bool) {
	switch c := r.next(); c {
	case quote, backslash:
		return c, true
	case hexadecimal:
		return r.hidden()
	}
	return 0, false
}

// hidden reads two hexadecimal digits. A byte that can be seen is not written
// in this way: its text would not be the only one.
func (r *reader) hidden() (byte, bool) {
	high, okHigh := digit(r.next())
	low, okLow := digit(r.next())
	c := high*16 + low
	return c, okHigh && okLow && (c < firstPlain || c > lastPlain)
}

// digit is what a hexadecimal digit tells.
func digit(c byte) (byte, bool) {
	switch {
	case '0' <= c && c <= '9':
		return c - '0', true
	case 'a' <= c && c <= 'f':
		return c - 'a' + 10, true
	}
	return 0, false
}
