// Package scroll reckons with scroll offsets: float64s, told by their bits.
package scroll

import (
	"cmp"
	"math"
)

// Most is the greatest offset; the least one is +0.
const Most = 1 << 20

// Clean answers the offset that is nearest to x, and +0 of a NaN.
func Clean(x uint64) uint64 {
	return math.Float64bits(offset(x))
}

// Right tells whether x is an offset: from +0 to Most, neither -0 nor a NaN.
func Right(x uint64) bool {
	return Clean(x) == x
}

// Add moves the offset Clean(x) by by, which may be below 0; a NaN moves nothing.
func Add(x, by uint64) uint64 {
	from, step := offset(x), math.Float64frombits(by)
	if math.IsNaN(step) {
		return math.Float64bits(from)
	}
	return math.Float64bits(nearest(from + step))
}

// Fit answers the lesser one of Clean(x) and Clean(room).
func Fit(x, room uint64) uint64 {
	return math.Float64bits(min(offset(x), offset(room)))
}

// Part tells which part of Clean(of) Clean(x) is: from +0 to 1, and +0 of nothing.
func Part(x, of uint64) uint64 {
	whole := offset(of)
	if whole == 0 {
		return 0
	}
	return math.Float64bits(min(offset(x)/whole, 1))
}

// Compare answers -1, 0 or 1, as Clean(a) is below, equal to or above Clean(b).
func Compare(a, b uint64) int {
	return cmp.Compare(offset(a), offset(b))
}

// offset reads x as the offset that Clean makes of it.
func offset(x uint64) float64 {
	return nearest(math.Float64frombits(x))
}

// nearest asks "above 0" and not "below 0", because a NaN and -0 answer no to
// both and must become +0 like all that is below.
func nearest(f float64) float64 {
	if !(f > 0) {
		return 0
	}
	return min(f, Most)
}
