package fn_test

import (
	"math"
	"math/big"

	"tenor/ieee"
)

var (
	inf    = math.Inf(1)
	nan    = math.NaN()
	nought = math.Copysign(0, -1)
)

// scatter is splitmix64: the same numbers in every run.
func scatter(state *uint64) uint64 {
	*state += 0x9e3779b97f4a7c15
	z := *state
	z = (z ^ z>>30) * 0xbf58476d1ce4e5b9
	z = (z ^ z>>27) * 0x94d049bb133111eb
	return z ^ z>>31
}

// unit is a number from 0 to below 1.
func unit(state *uint64) float64 {
	return float64(scatter(state)>>11) * 0x1p-53
}

func isNumber(x float64) bool {
	return !math.IsNaN(x) && !math.IsInf(x, 0)
}

// exactly is the step between x and y reckoned with fractions and rounded once, so that nothing can be fused; where an operand is no number or the exact answer is 0, the machine's own step, which can't be off there, is asked.
func exactly(x, y, step float64, f func(z, x, y *big.Rat) *big.Rat) float64 {
	if !isNumber(x) || !isNumber(y) {
		return step
	}
	z := f(new(big.Rat), new(big.Rat).SetFloat64(x), new(big.Rat).SetFloat64(y))
	if z.Sign() == 0 {
		return step
	}
	near, _ := z.Float64()
	return near
}

func plus(x, y float64) float64  { return exactly(x, y, x+y, (*big.Rat).Add) }
func minus(x, y float64) float64 { return exactly(x, y, x-y, (*big.Rat).Sub) }
func times(x, y float64) float64 { return exactly(x, y, x*y, (*big.Rat).Mul) }

func over(x, y float64) float64 {
	if y == 0 {
		return x / y
	}
	return exactly(x, y, x/y, (*big.Rat).Quo)
}

// stepHorner is 4.1, word by word.
func stepHorner(l []float64, x float64) float64 {
	if len(l) == 0 {
		return 0
	}
	p := l[len(l)-1]
	for i := len(l) - 2; i >= 0; i-- {
		p = plus(times(p, x), l[i])
	}
	return p
}

// stepPow is 4.2, word by word.
func stepPow(x float64, n int) float64 {
	if n > 1048576 || n < -1048576 {
		return nan
	}
	if n < 0 {
		return over(1, stepPow(x, -n))
	}
	r, b := 1.0, x
	for n > 0 {
		if n%2 == 1 {
			r = times(r, b)
		}
		n = n / 2
		if n > 0 {
			b = times(b, b)
		}
	}
	return r
}

func hilo() (h, l float64) {
	return 0x1.62e42feep-1, 0x1.a39ef35793c76p-33
}

// stepExp is 4.3, word by word.
func stepExp(x float64) float64 {
	switch {
	case math.IsNaN(x):
		return nan
	case x >= 710:
		return inf
	case x <= -746:
		return 0
	}
	t := plus(times(x, 0x1.71547652b82fep+0), 0.5)
	k := 0
	for float64(k) > t {
		k--
	}
	for float64(k+1) <= t {
		k++
	}
	h, l := hilo()
	r := minus(minus(x, times(float64(k), h)), times(float64(k), l))
	c := []float64{1, 1, 1. / 2, 1. / 6, 1. / 24, 1. / 120, 1. / 720, 1. / 5040, 1. / 40320, 1. / 362880, 1. / 3628800, 1. / 39916800, 1. / 479001600, 1. / 6227020800}
	return scaled(stepHorner(c, r), k)
}

// scaled is near of p * 2^k.
func scaled(p float64, k int) float64 {
	z := new(big.Rat).SetFloat64(p)
	power := new(big.Rat).SetInt(new(big.Int).Lsh(big.NewInt(1), uint(max(k, -k))))
	if k < 0 {
		power.Inv(power)
	}
	near, _ := z.Mul(z, power).Float64()
	return near
}

// stepLn is 4.4, word by word.
func stepLn(x float64) float64 {
	switch {
	case math.IsNaN(x), x < 0:
		return nan
	case x == 0:
		return -inf
	case x == inf:
		return inf
	}
	m, k := math.Frexp(x)
	m, k = 2*m, k-1
	if m > 0x1.6a09e667f3bcdp+0 {
		m, k = m/2, k+1
	}
	s := over(minus(m, 1), plus(m, 1))
	d := []float64{1, 1. / 3, 1. / 5, 1. / 7, 1. / 9, 1. / 11, 1. / 13, 1. / 15, 1. / 17, 1. / 19, 1. / 21}
	v := times(times(2, s), stepHorner(d, times(s, s)))
	h, l := hilo()
	return plus(times(float64(k), h), plus(v, times(float64(k), l)))
}

// apart is how many floats x and y lie apart; the most there is, if one is a NaN.
func apart(x, y float64) uint64 {
	n, ok := ieee.Gap(x, y)
	if !ok {
		return math.MaxUint64
	}
	return n
}
