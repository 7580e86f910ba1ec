package code_test

import (
	"fmt"
	"strings"
	"testing"

	"wayfarer/api"
	"wayfarer/code"
)

func TestQuote(t *testing.T) {
	for s, want := range map[string]string{
		"":           `''`,
		"a":          `'a'`,
		"a b":        `'a b'`,
		"'":          `'\''`,
		`\`:          `'\\'`,
		"a\n'\\z":    `'a\x0a\'\\z'`,
		"\n":         `'\x0a'`,
		"\t\r":       `'\x09\x0d'`,
		`"`:          `'"'`,
		"\x1f \x20~": `'\x1f  ~'`,
		"\x7f":       `'\x7f'`,
		"é":          `'\xc3\xa9'`,
		"\xef\xbb":   `'\xef\xbb'`,
		`\x41`:       `'\\x41'`,
		"'a'":        `'\'a\''`,
	} {
		if got := code.Quote(s); got != want {
			t.Errorf("Quote(%q) = %s; want %s", s, got, want)
		}
	}
}

func TestQuoteOfEachByte(t *testing.T) {
	for c := range 256 {
		want := string(rune(c))
		switch {
		case c == '\'' || c == '\\':
			want = `\` + want
		case c < 32 || c > 126:
			want = fmt.Sprintf(`\x%02x`, c)
		}
		s := string([]byte{byte(c)})
		for _, around := range []string{"", "a", "'", `\`, "\x00", "\xff"} {
			quoted := code.Quote(around)
			inner := quoted[1 : len(quoted)-1]
			if got := code.Quote(around + s + around); got != "'"+inner+want+inner+"'" {
				t.Errorf("Quote(%q) = %s", around+s+around, got)
			}
		}
		checkParse(t, "'"+want+"'", word(s))
	}
}

// Quote asks for no limit: it tells of any text.
func TestQuoteOfLongTexts(t *testing.T) {
	for _, n := range []int{api.MaxText, api.MaxText + 1, 1 << 20} {
		if got := code.Quote(letters(n)); got != "'"+letters(n)+"'" {
			t.Error("a long text is quoted otherwise:", n)
		}
		if got := code.Quote(strings.Repeat("\xff", n)); got != "'"+strings.Repeat(`\xff`, n)+"'" {
			t.Error("a long text of hidden bytes is quoted otherwise:", n)
		}
	}
}
