package fx

import (
	"math/bits"

	"tenor/api"
)

const (
	mantissa    = 53 // bits of a number
	word        = 64
	longest     = (api.MaxCur-1)*mantissa + 1 // bits of the product of all rates of a way, and one more to double it
	words       = (longest + word - 1) / word
	behindPoint = 62 // bits of a quotient below its point; with the one ahead of it they fit an int
)

// A whole is a whole number from 0 on in words of 64 bits, the lowest first.
type whole [words]uint64

// times is w * m, which must have room.
func (w whole) times(m uint64) whole {
	carry := uint64(0)
	for i := range w {
		hi, lo := bits.Mul64(w[i], m)
		sum, more := bits.Add64(lo, carry, 0)
		w[i], carry = sum, hi+more
	}
	return w
}

// shifted is w * 2^n, which must have room.
func (w whole) shifted(n int) whole {
	var up whole
	far, off := n/word, n%word
	for i := far; i < words; i++ {
		up[i] = w[i-far] << off
		if i > far {
			up[i] |= w[i-far-1] >> (word - off)
		}
	}
	return up
}

// minus is w - v, and whether v is not above w; else the difference goes round.
func (w whole) minus(v whole) (whole, bool) {
	borrow := uint64(0)
	for i := range w {
		w[i], borrow = bits.Sub64(w[i], v[i], borrow)
	}
	return w, borrow == 0
}

// length is how many bits w has from its first that is set.
func (w whole) length() int {
	top := words - 1
	for top > 0 && w[top] == 0 {
		top--
	}
	return top*word + bits.Len64(w[top])
}

// quotient is over / under, which must be below 2, with so many bits behind its point, rounded down; and whether that is exact.
func quotient(over, under whole) (q int, exact bool) {
	for range behindPoint + 1 {
		q <<= 1
		if rest, fits := over.minus(under); fits {
			over = rest
			q |= 1
		}
		over = over.shifted(1)
	}
	return q, over == whole{}
}
