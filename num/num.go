// Package num is layer 1: numbers with an end. See shared/doc/01-num.md.
package num

import (
	"math"

	"buttery/api"
)

const (
	maxNumbers = 1 << 30 // of a list that Total takes
	halfBits   = 32
	lowerHalf  = 1<<halfBits - 1
)

// Add two; ErrOver: their sum is no int64.
func Add(a, b int64) (int64, api.Errno) {
	sum := a + b
	// Only numbers of one sign can run over, and what wraps round has the other one.
	if (a^sum)&(b^sum) < 0 {
		return 0, api.ErrOver
	}
	return sum, api.OK
}

// Total of all; ErrLong: there are more than 2^30 of them; ErrOver: it is no int64.
func Total(l []int64) (int64, api.Errno) {
	if len(l) > maxNumbers {
		return 0, api.ErrLong
	}
	// The upper and the lower halves are added by themselves: neither sum can
	// run over, so what some of the numbers make together never matters.
	var upper, lower int64
	for _, n := range l {
		upper += n >> halfBits
		lower += n & lowerHalf
	}
	upper += lower >> halfBits
	if upper < math.MinInt32 || upper > math.MaxInt32 {
		return 0, api.ErrOver
	}
	return upper<<halfBits | lower&lowerHalf, api.OK
}
