// Package ieee reads and makes numbers by their bits: their classes, their places among each other, their parts, their two widths and their order.
package ieee

import (
	"cmp"
	"math/bits"
	"slices"

	"tenor/api"
)

const (
	signBit      = uint64(1) << 63
	fractionBits = 52
	hiddenBit    = uint64(1) << fractionBits // the leading bit of a normal number, which its bits leave out
	fractionMask = hiddenBit - 1
	infBits      = uint64(2047) << fractionBits
	infRank      = int(infBits)
	leastExp     = -1074 // the least subnormal number is 2 to this power
	leastNormal  = -1022
	greatestExp  = 1023
)

// size is x's bits without its sign.
func size(x float64) uint64 {
	return api.Bits(x) &^ signBit
}

func signed(x float64) bool {
	return api.Bits(x)&signBit != 0
}

func isNaN(x float64) bool {
	return size(x) > infBits
}

// withSign is the float of this size, below 0 if negative is set.
func withSign(u uint64, negative bool) float64 {
	if negative {
		u |= signBit
	}
	return api.Float(u)
}

// Class tells of which class x is: FZero, FSub, FNormal, FInf or FNaN.
func Class(x float64) int {
	u := size(x)
	switch {
	case u == 0:
		return api.FZero
	case u < hiddenBit:
		return api.FSub
	case u < infBits:
		return api.FNormal
	case u == infBits:
		return api.FInf
	}
	return api.FNaN
}

// Negative tells whether x's sign bit is set; false of a NaN.
func Negative(x float64) bool {
	return signed(x) && !isNaN(x)
}

// Same tells whether both are NaN or their bits are the same.
func Same(x, y float64) bool {
	return isNaN(x) && isNaN(y) || api.Bits(x) == api.Bits(y)
}

// Rank is x's place among numbers and infinities, both zeros at 0; false of a NaN.
func Rank(x float64) (int, bool) {
	if isNaN(x) {
		return 0, false
	}
	n := int(size(x))
	if signed(x) {
		return -n, true
	}
	return n, true
}

// At is what has the rank n, of 0 +0; false, if nothing has.
func At(n int) (float64, bool) {
	if n < -infRank || n > infRank {
		return 0, false
	}
	if n < 0 {
		return withSign(uint64(-n), true), true
	}
	return withSign(uint64(n), false), true
}

// Up is the next greater one; of the positive infinity itself, of a NaN a NaN.
func Up(x float64) float64 {
	return beside(x, 1)
}

// Down is the next lesser one; of the negative infinity itself, of a NaN a NaN.
func Down(x float64) float64 {
	return beside(x, -1)
}

// beside is x where no rank lies that way: at the last infinity, and of a NaN, which has none.
func beside(x float64, way int) float64 {
	n, ok := Rank(x)
	if !ok {
		return x
	}
	y, ok := At(n + way)
	if !ok {
		return x
	}
	return y
}

// Mid is what lies halfway between two ranks, rounded down; false, if one is a NaN.
func Mid(x, y float64) (float64, bool) {
	a, b, ok := ranks(x, y)
	if !ok {
		return 0, false
	}
	// The sum of two ranks may be too great for an int, so each is halved by itself; a shift rounds down on both sides of 0.
	return At(a>>1 + b>>1 + a&b&1)
}

// Gap is how far two ranks lie apart; false, if one is a NaN.
func Gap(x, y float64) (uint64, bool) {
	a, b, ok := ranks(x, y)
	if !ok {
		return 0, false
	}
	// The distance may be too great for an int: unsigned numbers wrap round to it.
	return uint64(max(a, b)) - uint64(min(a, b)), true
}

func ranks(x, y float64) (a, b int, ok bool) {
	a, okA := Rank(x)
	b, okB := Rank(y)
	return a, b, okA && okB
}

// Split is the m and e of which x is m * 2^e; false of what is no number.
func Split(x float64) (m, e int, ok bool) {
	u := size(x)
	switch {
	case u >= infBits:
		return 0, 0, false
	case u == 0:
		return 0, 0, true
	case u < hiddenBit:
		m, e = int(u), leastExp
	default:
		m, e = int(u&fractionMask|hiddenBit), int(u>>fractionBits)-1+leastExp
	}
	if signed(x) {
		m = -m
	}
	return m, e, true
}

// Join is near of m * 2^e; of m 0 it is +0, and what rounds to 0 keeps m's sign.
func Join(m, e int) float64 {
	if m == 0 {
		return 0
	}
	u, negative := uint64(m), m < 0
	if negative {
		u = -u // wraps round to the size of the least int too, which no int has
	}
	return withSign(near(u, e), negative)
}

// near is the bits of near of u * 2^e, for u from 1 on.
func near(u uint64, e int) uint64 {
	// u lies from 1 to below 2^64, so beyond these bounds e alone decides; within them no sum of exponents overflows.
	if e > greatestExp {
		return infBits
	}
	if e < leastExp-65 {
		return 0
	}
	lead := bits.LeadingZeros64(u)
	u <<= lead
	top := e + 63 - lead // the power of 2 of the leading bit
	if top > greatestExp {
		return infBits
	}
	drop := 63 - fractionBits
	if top < leastNormal {
		return shiftNear(u, drop+leastNormal-top)
	}
	// The hidden bit, which stays in what is kept, adds 1 to the exponent; so does a carry of the rounding, as far as to infinity.
	return uint64(top-leastNormal)<<fractionBits + shiftNear(u, drop)
}

// shiftNear is u without its last drop bits (1 on), rounded to the nearest, ties to even.
func shiftNear(u uint64, drop int) uint64 {
	if drop > 64 {
		return 0 // less than a half
	}
	const half = uint64(1) << 63
	kept, lost := u>>drop, u<<(64-drop)
	if lost > half || lost == half && kept&1 == 1 {
		kept++
	}
	return kept
}

// Single is the binary32 of x, rounded once.
func Single(x float64) float32 {
	return float32(x)
}

// Double is x, exactly.
func Double(x float32) float64 {
	return float64(x)
}

// Less tells whether x stands ahead of y: by value, -0 ahead of +0, NaN last.
func Less(x, y float64) bool {
	return place(x) < place(y)
}

// Sort is the same floats in the order of Less.
func Sort(l []float64) []float64 {
	sorted := make([]float64, len(l))
	copy(sorted, l)
	slices.SortFunc(sorted, func(x, y float64) int {
		return cmp.Compare(place(x), place(y))
	})
	return sorted
}

// place is an unsigned number that rises in the order of Less; all NaNs have one, since their bits are not asked.
func place(x float64) uint64 {
	switch {
	case isNaN(x):
		return ^uint64(0)
	case signed(x):
		return ^api.Bits(x)
	}
	return api.Bits(x) | signBit
}
