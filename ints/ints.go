// Package ints is layer 1: numbers of 64 bits that tell when they have no room.
package ints

import (
	"slices"

	"wayfarer/api"
)

// Add is the sum of all, one added to the other, from 0 on.
func Add(l ...int) (int, api.Errno) {
	sum := 0
	for _, n := range l {
		next, ok := plus(sum, n)
		if !ok {
			return 0, api.ErrRange
		}
		sum = next
	}
	return sum, api.OK
}

// Mul is the product of all, one by the other, from 1 on.
func Mul(l ...int) (int, api.Errno) {
	product := 1
	for _, n := range l {
		next, ok := by(product, n)
		if !ok {
			return 0, api.ErrRange
		}
		product = next
	}
	return product, api.OK
}

// Neg is what n lacks to 0.
func Neg(n int) (int, api.Errno) {
	if n == api.MinInt {
		return 0, api.ErrRange
	}
	return -n, api.OK
}

// Times is n, k times.
func Times(n int, k int) (int, api.Errno) {
	if k < 0 {
		return 0, api.ErrArg
	}
	// k copies of one number go one way only, so no sum on the way lacks
	// room where the last one has it: the product tells all.
	return Mul(n, k)
}

// Least is the least one of all, and whether there is any.
func Least(l ...int) (int, bool) {
	if len(l) == 0 {
		return 0, false
	}
	return slices.Min(l), true
}

// Greatest is the greatest one of all, and whether there is any.
func Greatest(l ...int) (int, bool) {
	if len(l) == 0 {
		return 0, false
	}
	return slices.Max(l), true
}
