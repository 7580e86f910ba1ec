package ints

import (
	"math/bits"

	"wayfarer/api"
)

// plus adds in two limbs: 128 bits have room for every sum of two numbers,
// so the upper limb tells whether 64 bits have it, too.
func plus(a, b int) (int, bool) {
	low, carry := bits.Add64(uint64(a), uint64(b), 0)
	high, _ := bits.Add64(upper(a), upper(b), carry)
	sum := int(low)
	if high != upper(sum) {
		return 0, false
	}
	return sum, true
}

// upper is the limb above n, where n is laid out in 128 bits.
func upper(n int) uint64 {
	if n < 0 {
		return ^uint64(0)
	}
	return 0
}

func by(a, b int) (int, bool) {
	high, low := bits.Mul64(sizeOf(a), sizeOf(b))
	if high != 0 {
		return 0, false
	}
	return signed(low, (a < 0) != (b < 0))
}

// sizeOf is n without its sign. It is no int, as the size of MinInt is none.
func sizeOf(n int) uint64 {
	if n < 0 {
		return -uint64(n)
	}
	return uint64(n)
}

// signed is the number of that size, below 0 or not, if it has room.
func signed(size uint64, below bool) (int, bool) {
	if below {
		// The numbers below 0 reach one further than those above it.
		if size > api.MaxInt+1 {
			return 0, false
		}
		return int(-size), true
	}
	if size > api.MaxInt {
		return 0, false
	}
	return int(size), true
}
