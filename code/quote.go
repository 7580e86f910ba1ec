package code

// digits: those of hexadecimal numbers, by what they tell.
const digits = "0123456789abcdef"

// Quote is s between quotes, in bytes that can be seen.
func Quote(s string) string {
	b := []byte{quote}
	for i := range len(s) {
		switch c := s[i]; {
		case c == quote || c == backslash:
			b = append(b, backslash, c)
		case c < firstPlain || c > lastPlain:
			b = append(b, backslash, hexadecimal, digits[c/16], digits[c%16])
		default:
			b = append(b, c)
		}
	}
	return string(append(b, quote))
}
