package acc

import (
	"math/bits"
	"slices"

	"tenor/ieee"
)

// leastPower is the power of 2 of the least product of two numbers: every sum is a whole number of it.
const leastPower = 2 * -1074

// A whole is a whole number of any size in words of 64 bits, the lowest first, below 0 by wrap-round.
// Its last word is 0 or all ones: so two wholes of a length have a sum that fits this length, and the sign is seen at the end.
type whole []uint64

// ends is the word that goes on behind the last one without end.
func (w whole) ends() uint64 {
	if len(w) == 0 {
		return 0
	}
	return w[len(w)-1]
}

func (w whole) word(i int) uint64 {
	if i < len(w) {
		return w[i]
	}
	return w.ends()
}

func (w whole) sign() int {
	if w.ends() != 0 {
		return -1
	}
	if anyBit(w) {
		return 1
	}
	return 0
}

// same does not hang on the lengths: sums that fell back keep the words that they once needed.
func (w whole) same(v whole) bool {
	for i := range max(len(w), len(v)) {
		if w.word(i) != v.word(i) {
			return false
		}
	}
	return true
}

// long is w with at least n words.
func (w whole) long(n int) whole {
	if len(w) >= n {
		return w
	}
	end := w.ends()
	w = slices.Grow(w, n-len(w)+1) // and one more for settled
	for len(w) < n {
		w = append(w, end)
	}
	return w
}

// settled is w with a last word that is nothing but sign, after a sum that may have gone into it.
func (w whole) settled() whole {
	if end := w.ends(); end != 0 && end != ^uint64(0) {
		return append(w, uint64(int64(end)>>63))
	}
	return w
}

// with is w and hi * 2^64 + lo, times 2^shift, more or less, in w's own memory.
func (w whole) with(hi, lo uint64, shift int, less bool) whole {
	first, off := shift/64, shift%64
	pieces := [3]uint64{lo << off, hi<<off | lo>>(64-off), hi >> (64 - off)}
	w = w.long(first + len(pieces)) // a product has 106 bits: the last piece leaves room for the carry and the sign
	carry := uint64(0)
	for i, piece := range pieces {
		w[first+i], carry = step(w[first+i], piece, carry, less)
	}
	for i := first + len(pieces); carry != 0 && i < len(w); i++ {
		w[i], carry = step(w[i], 0, carry, less)
	}
	return w.settled()
}

func step(x, y, carry uint64, less bool) (uint64, uint64) {
	if less {
		return bits.Sub64(x, y, carry)
	}
	return bits.Add64(x, y, carry)
}

// plus is w and v, in w's own memory; v may be w.
func (w whole) plus(v whole) whole {
	w = w.long(len(v))
	carry := uint64(0)
	for i := range w {
		w[i], carry = bits.Add64(w[i], v.word(i), carry)
	}
	return w.settled()
}

// turned is w with the other sign, in new memory.
func (w whole) turned() whole {
	return inverse(w).settled()
}

// size is the words of w without its sign, not to be written to.
func (w whole) size() (words []uint64, negative bool) {
	if w.ends() == 0 {
		return w, false
	}
	return inverse(w), true
}

func inverse(w whole) whole {
	turned := make(whole, len(w))
	borrow := uint64(0)
	for i := range w {
		turned[i], borrow = bits.Sub64(0, w[i], borrow)
	}
	return turned
}

func anyBit(words []uint64) bool {
	for _, word := range words {
		if word != 0 {
			return true
		}
	}
	return false
}

// divided is the quotient of a size by n, rounded down, and what is left.
func divided(size []uint64, n uint64) (quotient []uint64, rest uint64) {
	quotient = make([]uint64, len(size))
	for i := len(size) - 1; i >= 0; i-- {
		quotient[i], rest = bits.Div64(rest, size[i], n)
	}
	return quotient, rest
}

// near is near of a size, with a sign; more tells that the real lies above the size, by less than one unit.
func near(size []uint64, more, negative bool) float64 {
	top := len(size) - 1
	for top > 0 && size[top] == 0 {
		top--
	}
	var hi, lo uint64
	if top >= 0 {
		hi = size[top]
	}
	if top >= 1 {
		lo = size[top-1]
		more = more || anyBit(size[:top-1])
	}
	lead := bits.LeadingZeros64(hi)
	// An int takes 62 bits of the real with room to spare. That is beyond what a number keeps, so the last of them may stand for all that lie behind it, and Join rounds but once.
	window := hi<<lead | lo>>(64-lead)
	m := int(window >> 2)
	if more || window&3 != 0 || lo<<lead != 0 {
		m |= 1
	}
	if negative {
		m = -m
	}
	return ieee.Join(m, 64*top-lead+2+leastPower)
}
