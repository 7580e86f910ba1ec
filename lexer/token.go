package lexer

import (
	"wayfarer/api"
	"wayfarer/ints"
)

const (
	minus, quote, backslash = '-', '\'', '\\'

	// The least byte that may stand in a text.
	firstOfText = 32
)

// first is the token at the beginning of s, without its place, and how many
// bytes of s it takes. s has a byte at least.
func first(s string) (api.Token, int, bool) {
	switch c := s[0]; {
	case letter(c):
		n := wordEnd(s)
		return api.Token{Kind: api.TokName, S: s[:n]}, n, true
	case digit(c), c == minus:
		return number(s[:wordEnd(s)])
	case c == quote:
		return text(s)
	case Sign(c):
		return api.Token{Kind: api.TokSign, S: s[:1]}, 1, true
	}
	return api.Token{}, 0, false
}

func letter(c byte) bool {
	switch {
	case 'a' <= c && c <= 'z', 'A' <= c && c <= 'Z', c == '_':
		return true
	}
	return false
}

func digit(c byte) bool {
	return '0' <= c && c <= '9'
}

// wordEnd is where the name or number at the beginning of s ends.
func wordEnd(s string) int {
	n := 1
	for n < len(s) && (letter(s[n]) || digit(s[n])) {
		n++
	}
	return n
}

func number(s string) (api.Token, int, bool) {
	n, e := ints.Parse(s)
	if e != api.OK {
		return api.Token{}, 0, false
	}
	return api.Token{Kind: api.TokNumber, S: s, N: n}, len(s), true
}

// text reads the text whose quote is the first byte of s.
func text(s string) (api.Token, int, bool) {
	var meant []byte
	for i := 1; i < len(s) && s[i] >= firstOfText; i++ {
		if s[i] == quote {
			return api.Token{Kind: api.TokText, S: string(meant)}, i + 1, true
		}
		if s[i] == backslash {
			if i++; i == len(s) || s[i] != quote && s[i] != backslash {
				break
			}
		}
		if len(meant) == api.MaxText {
			break
		}
		meant = append(meant, s[i])
	}
	return api.Token{}, 0, false
}
