// Package num is layer 1: see shared/doc/01-num.md.
package num

import (
	"cmp"
	"math"
)

// nan is the one NaN that stands for all of them.
const nan uint64 = 0x7FF8000000000000

const signBit uint64 = 1 << 63

// The kinds of numbers, in their order.
const (
	kindNaN = iota
	kindMinusInf
	kindNegative
	kindMinusZero
	kindPlusZero
	kindPositive
	kindInf
)

// Canon answers b, or the canonical NaN's bits if b is any NaN's.
func Canon(b uint64) uint64 {
	if math.IsNaN(math.Float64frombits(b)) {
		return nan
	}
	return b
}

// Order answers -1, 0 or 1, as a lies ahead of b, is alike, or lies behind it.
func Order(a, b uint64) int {
	return cmp.Compare(Key(a), Key(b))
}

// Key answers a number for b, so that keys are ordered as unsigned numbers just as numbers are.
func Key(b uint64) uint64 {
	if math.IsNaN(math.Float64frombits(b)) {
		return 0
	}
	if b&signBit != 0 {
		// The bits of negative numbers rise as the numbers fall: turned, they rise with them.
		return ^b
	}
	return b | signBit
}

// Kind answers which of the seven kinds of numbers b is, from 0 (NaN) to 6 (infinity).
func Kind(b uint64) int {
	f := math.Float64frombits(b)
	switch {
	case math.IsNaN(f):
		return kindNaN
	case math.IsInf(f, -1):
		return kindMinusInf
	case math.IsInf(f, 1):
		return kindInf
	case f < 0:
		return kindNegative
	case f > 0:
		return kindPositive
	case math.Signbit(f):
		return kindMinusZero
	}
	return kindPlusZero
}

// Sum answers the canonical bits of the numbers of l, added from the first to the last; +0 of none.
func Sum(l []uint64) uint64 {
	if len(l) == 0 {
		return 0
	}
	// Begun with +0, a sum of -0 alone would be +0.
	sum := math.Float64frombits(l[0])
	for _, b := range l[1:] {
		sum += math.Float64frombits(b)
	}
	return Canon(math.Float64bits(sum))
}

// Least answers the first number of l in the order, canonical, and true; 0 and false of none.
func Least(l []uint64) (uint64, bool) {
	return outermost(l, -1)
}

// Most answers the last number of l in the order, canonical, and true; 0 and false of none.
func Most(l []uint64) (uint64, bool) {
	return outermost(l, 1)
}

// outermost answers the number of l farthest to the side that Order tells by -1 or 1.
func outermost(l []uint64, side int) (uint64, bool) {
	if len(l) == 0 {
		return 0, false
	}
	found := l[0]
	for _, b := range l[1:] {
		if Order(b, found) == side {
			found = b
		}
	}
	return Canon(found), true
}
