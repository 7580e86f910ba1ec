package ints

import (
	"math/bits"
	"slices"
	"strings"

	"wayfarer/api"
)

const (
	base  = 10
	minus = "-"
)

// Digits is n, decimal, without noughts ahead.
func Digits(n int) string {
	rest := sizeOf(n)
	// The last digit comes first, and is there even of 0.
	runes := []rune{lastDigit(rest)}
	for rest /= base; rest > 0; rest /= base {
		runes = append(runes, lastDigit(rest))
	}
	slices.Reverse(runes)
	if n < 0 {
		return minus + string(runes)
	}
	return string(runes)
}

func lastDigit(size uint64) rune {
	return '0' + rune(size%base)
}

// Parse is the number that has these Digits.
func Parse(s string) (int, api.Errno) {
	digits, below := strings.CutPrefix(s, minus)
	if !whole(digits) || below && digits == "0" {
		return 0, api.ErrArg
	}
	size, ok := read(digits)
	if !ok {
		return 0, api.ErrRange
	}
	n, ok := signed(size, below)
	if !ok {
		return 0, api.ErrRange
	}
	return n, api.OK
}

// whole tells whether s is the digits of a whole number that is not below 0,
// be there room for it or not.
func whole(s string) bool {
	for _, r := range s {
		if r < '0' || r > '9' {
			return false
		}
	}
	return s == "0" || s != "" && s[0] != '0'
}

// read is the size that these digits tell, if it has room.
func read(digits string) (uint64, bool) {
	size := uint64(0)
	for _, r := range digits {
		high, low := bits.Mul64(size, base)
		sum, carry := bits.Add64(low, uint64(r-'0'), 0)
		if high != 0 || carry != 0 {
			return 0, false
		}
		size = sum
	}
	return size, true
}
