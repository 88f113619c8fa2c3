package rate_test

import (
	"math"
	"math/big"

	"tenor/api"
	"tenor/fn"
	"tenor/ieee"
)

var (
	inf    = math.Inf(1)
	nan    = math.NaN()
	nought = math.Copysign(0, -1)
)

const (
	least    = 0x1p-1074
	greatest = math.MaxFloat64
)

// scatter is splitmix64: the same numbers in every run.
func scatter(state *uint64) uint64 {
	*state += 0x9e3779b97f4a7c15
	z := *state
	z = (z ^ z>>30) * 0xbf58476d1ce4e5b9
	z = (z ^ z>>27) * 0x94d049bb133111eb
	return z ^ z>>31
}

// unit is a number from 0 to below 1.
func unit(state *uint64) float64 {
	return float64(scatter(state)>>11) * 0x1p-53
}

// someFloat is any float, now and then one at an edge.
func someFloat(state *uint64) float64 {
	edges := []float64{0, nought, inf, -inf, nan, 1, -1, least, -least, greatest, -greatest, api.MaxPower, ieee.Up(api.MaxPower), -12, -4, -2}
	if u := scatter(state); u%3 == 0 {
		return edges[u/3%uint64(len(edges))]
	}
	return math.Float64frombits(scatter(state))
}

// someRate is a rate from -2 to 2, mostly a small one, now and then a great one.
func someRate(state *uint64) float64 {
	size := -int(scatter(state) % 12)
	if scatter(state)%16 == 0 {
		size = int(scatter(state) % 1000)
	}
	return math.Ldexp(4*unit(state)-2, size)
}

// someTime is a time from some hours to a century, now and then any that may be.
func someTime(state *uint64) float64 {
	switch scatter(state) % 16 {
	case 0:
		return unit(state) * api.MaxPower
	case 1:
		return math.Ldexp(unit(state), -int(scatter(state)%1070))
	}
	return math.Ldexp(unit(state), int(scatter(state)%18)-10)
}

// someFactor is mostly a factor of everyday size, now and then any number above 0.
func someFactor(state *uint64) float64 {
	switch scatter(state) % 8 {
	case 0:
		return math.Ldexp(1+unit(state), int(scatter(state)%2098)-1074)
	case 1:
		return 1 + math.Ldexp(unit(state)-0.5, -int(scatter(state)%52))
	}
	return 0.2 + unit(state)
}

func isNumber(x float64) bool {
	return !math.IsNaN(x) && !math.IsInf(x, 0)
}

// exactly is the step between x and y reckoned with fractions and rounded once, so that nothing can be fused; where an operand is no number or the exact answer is 0, the machine's own step, which can't be off there, is asked.
func exactly(x, y, step float64, f func(z, x, y *big.Rat) *big.Rat) float64 {
	if !isNumber(x) || !isNumber(y) {
		return step
	}
	z := f(new(big.Rat), new(big.Rat).SetFloat64(x), new(big.Rat).SetFloat64(y))
	if z.Sign() == 0 {
		return step
	}
	near, _ := z.Float64()
	return near
}

func plus(x, y float64) float64  { return exactly(x, y, x+y, (*big.Rat).Add) }
func minus(x, y float64) float64 { return exactly(x, y, x-y, (*big.Rat).Sub) }
func times(x, y float64) float64 { return exactly(x, y, x*y, (*big.Rat).Mul) }

func over(x, y float64) float64 {
	if y == 0 {
		return x / y
	}
	return exactly(x, y, x/y, (*big.Rat).Quo)
}

// answer is what a call tells.
type answer struct {
	x float64
	e api.Errno
}

func told(x float64, e api.Errno) answer { return answer{x, e} }

func (a answer) is(b answer) bool { return ieee.Same(a.x, b.x) && a.e == b.e }

// wrong is a refusal by that error.
func wrong(e api.Errno) answer { return answer{0, e} }

// kinds is all kinds of rates.
func kinds() []int {
	return []int{api.KSimple, api.KAnnual, api.KSemi, api.KQuarter, api.KMonth, api.KCont}
}

// noKinds is ints that are no kinds.
func noKinds() []int {
	return []int{math.MinInt, -1, 0, 7, 9, 256 + api.KSimple, 1<<32 + api.KCont, math.MaxInt}
}

// perYear is the m of a kind; 0, if it has none.
func perYear(kind int) float64 {
	return map[int]float64{api.KAnnual: 1, api.KSemi: 2, api.KQuarter: 4, api.KMonth: 12}[kind]
}

// stepFactor is 9.1, word by word, of a kind.
func stepFactor(kind int, r, t float64) answer {
	if !isNumber(r) || !isNumber(t) || t < 0 || t > 1048576 {
		return wrong(api.ErrValue)
	}
	var f float64
	switch m := perYear(kind); {
	case kind == api.KSimple:
		b := plus(1, times(r, t))
		if !(b > 0) {
			return wrong(api.ErrValue)
		}
		f = over(1, b)
	case kind == api.KCont:
		f = fn.Exp(-times(r, t))
	default:
		b := plus(1, over(r, m))
		if !(b > 0) {
			return wrong(api.ErrValue)
		}
		f = fn.Exp(-times(times(m, t), fn.Ln(b)))
	}
	if f == 0 || !isNumber(f) {
		return wrong(api.ErrValue)
	}
	return answer{f, api.OK}
}

// stepYield is 9.2, word by word, of a kind.
func stepYield(kind int, f, t float64) answer {
	if !isNumber(f) || !isNumber(t) || !(f > 0) || !(t > 0) || t > 1048576 {
		return wrong(api.ErrValue)
	}
	var r float64
	switch m := perYear(kind); {
	case kind == api.KSimple:
		r = over(minus(over(1, f), 1), t)
	case kind == api.KCont:
		r = over(-fn.Ln(f), t)
	default:
		r = times(m, minus(fn.Exp(over(-fn.Ln(f), times(m, t))), 1))
	}
	if !isNumber(r) {
		return wrong(api.ErrValue)
	}
	return answer{r, api.OK}
}

// stepForward is 9.3, word by word.
func stepForward(near, far, t float64) answer {
	for _, x := range []float64{near, far, t} {
		if !isNumber(x) || !(x > 0) {
			return wrong(api.ErrValue)
		}
	}
	r := over(minus(over(near, far), 1), t)
	if !isNumber(r) {
		return wrong(api.ErrValue)
	}
	return answer{r, api.OK}
}
