package ints_test

import (
	"math/big"
	"regexp"
	"strconv"
	"strings"
	"testing"

	"wayfarer/api"
	"wayfarer/ints"
)

// wantParse: what the document asks of Parse, told by other means.
func wantParse(s string) (int, api.Errno) {
	if !regexp.MustCompile(`\A(0|-?[1-9][0-9]*)\z`).MatchString(s) {
		return 0, api.ErrArg
	}
	z, ok := new(big.Int).SetString(s, 10)
	if !ok || !z.IsInt64() {
		return 0, api.ErrRange
	}
	return int(z.Int64()), api.OK
}

func checkParse(t *testing.T, s string) {
	t.Helper()
	want, wantE := wantParse(s)
	if n, e := ints.Parse(s); n != want || e != wantE {
		t.Errorf("Parse(%.60q) = %d, %d; want %d, %d", s, n, e, want, wantE)
	}
}

func TestDigits(t *testing.T) {
	for n, want := range map[int]string{
		0: "0", 7: "7", 10: "10", 100: "100", 1090: "1090", -1: "-1", -10: "-10", -305: "-305",
		api.MaxInt: "9223372036854775807", api.MinInt: "-9223372036854775808",
	} {
		if s := ints.Digits(n); s != want {
			t.Errorf("Digits(%d) = %q", n, s)
		}
	}
}

func TestThereAndBack(t *testing.T) {
	numbers := edges()
	for n := -1200; n <= 1200; n++ {
		numbers = append(numbers, n)
	}
	for n := 1; n <= api.MaxInt/10; n *= 10 {
		numbers = append(numbers, n-1, n, n+1, -n+1, -n, -n-1)
	}
	for _, n := range numbers {
		s := ints.Digits(n)
		if s != strconv.Itoa(n) {
			t.Errorf("Digits(%d) = %q", n, s)
		}
		if m, e := ints.Parse(s); m != n || e != api.OK {
			t.Errorf("Parse(%q) = %d, %d", s, m, e)
		}
	}
}

func TestParse(t *testing.T) {
	for s, want := range map[string]api.Errno{
		"0": api.OK, "9": api.OK, "-9": api.OK, "120": api.OK,
		"9223372036854775807": api.OK, "-9223372036854775808": api.OK,
		"9223372036854775808": api.ErrRange, "-9223372036854775809": api.ErrRange,
		"18446744073709551615": api.ErrRange, "18446744073709551616": api.ErrRange,
		"18446744073709551617": api.ErrRange, "-18446744073709551616": api.ErrRange,
		"184467440737095516160": api.ErrRange, "99999999999999999999999": api.ErrRange,
		"": api.ErrArg, "-": api.ErrArg, "--1": api.ErrArg, "+1": api.ErrArg, "-+1": api.ErrArg,
		"-0": api.ErrArg, "00": api.ErrArg, "01": api.ErrArg, "-01": api.ErrArg, "-00": api.ErrArg,
		"000000000000000000000000": api.ErrArg, "099999999999999999999999": api.ErrArg,
		"1x": api.ErrArg, "x1": api.ErrArg, "1-": api.ErrArg, "1 ": api.ErrArg, " 1": api.ErrArg,
		"1_000": api.ErrArg, "0x10": api.ErrArg, "1e3": api.ErrArg, "1.0": api.ErrArg, "1\n": api.ErrArg,
		"1\x00": api.ErrArg, "\xff": api.ErrArg, "1\xff": api.ErrArg, "٣": api.ErrArg, "1٣": api.ErrArg,
		"１": api.ErrArg, "−1": api.ErrArg,
	} {
		if _, e := ints.Parse(s); e != want {
			t.Errorf("Parse(%q) tells %d; want %d", s, e, want)
		}
		checkParse(t, s)
	}
}

func TestParseTellsWhatIsNoNumberFirst(t *testing.T) {
	great := strings.Repeat("9", 40)
	for _, s := range []string{great + "x", "0" + great, "-0" + great, great + "-", "-" + great + "\xff"} {
		if n, e := ints.Parse(s); n != 0 || e != api.ErrArg {
			t.Errorf("Parse(%q) = %d, %d", s, n, e)
		}
	}
}

func TestParseTakesDigitsOfAnyLength(t *testing.T) {
	for _, s := range []string{"1", "-1", "9", "-9"} {
		long := s + strings.Repeat("0", 1<<20)
		if n, e := ints.Parse(long); n != 0 || e != api.ErrRange {
			t.Errorf("Parse(%q, and noughts) = %d, %d", s, n, e)
		}
	}
	for length := range 45 {
		for _, first := range []string{"", "-", "0", "1", "-1", "9223372036854775807"} {
			checkParse(t, first+strings.Repeat("0", length))
			checkParse(t, first+strings.Repeat("9", length))
		}
	}
}

func TestParseOfAllShortTexts(t *testing.T) {
	texts := []string{""}
	for range 5 {
		var longer []string
		for _, s := range texts {
			checkParse(t, s)
			for _, c := range []string{"-", "+", "0", "1", "9", " ", "x", "\xff"} {
				longer = append(longer, s+c)
			}
		}
		texts = longer
	}
}

func TestParseAroundTheEndsOfRoom(t *testing.T) {
	for _, end := range []string{"9223372036854775808", "18446744073709551616", "184467440737095516160"} {
		z, _ := new(big.Int).SetString(end, 10)
		for d := int64(-30); d <= 30; d++ {
			s := new(big.Int).Add(z, big.NewInt(d)).String()
			checkParse(t, s)
			checkParse(t, "-"+s)
		}
	}
}
