package solve_test

import (
	"math"
	"math/big"

	"tenor/api"
	"tenor/ieee"
)

var (
	inf    = math.Inf(1)
	nan    = math.NaN()
	nought = math.Copysign(0, -1)
)

const (
	least    = 0x1p-1074
	greatest = math.MaxFloat64
	mostAsks = 66
)

// answer is what Root or Poly tells.
type answer struct {
	x     float64
	calls int
	e     api.Errno
}

func told(x float64, calls int, e api.Errno) answer {
	return answer{x, calls, e}
}

// is asks for x's bits, too: beside an error it is +0.
func (a answer) is(b answer) bool {
	return math.Float64bits(a.x) == math.Float64bits(b.x) && a.calls == b.calls && a.e == b.e
}

// function is what is sought in; it keeps where it was asked.
type function struct {
	tell  func(place int, x float64) float64 // place is how often it was asked ahead
	asked []float64
}

func (f *function) at(x float64) float64 {
	f.asked = append(f.asked, x)
	return f.tell(len(f.asked)-1, x)
}

// of is a function that hangs on where it is asked alone.
func of(f func(x float64) float64) *function {
	return &function{tell: func(_ int, x float64) float64 { return f(x) }}
}

// said is a function that tells these, one after the other, and the last one again and again.
func said(l ...float64) *function {
	return &function{tell: func(place int, _ float64) float64 { return l[min(place, len(l)-1)] }}
}

// from is a function that tells below ahead of the place start, and above there and behind it.
func from(start, below, above float64) *function {
	return of(func(x float64) float64 {
		if x < start {
			return below
		}
		return above
	})
}

// stepRoot is the chapter's words, with ranks that are never rounded and do not come out of the program.
func stepRoot(f *function, lo, hi float64) answer {
	if !isNumber(lo) || !isNumber(hi) || !(lo < hi) {
		return answer{0, 0, api.ErrArg}
	}
	a := f.at(lo)
	if a != a {
		return answer{0, len(f.asked), api.ErrValue}
	}
	b := f.at(hi)
	if b != b {
		return answer{0, len(f.asked), api.ErrValue}
	}
	if a == 0 {
		return answer{lo, len(f.asked), api.OK}
	}
	if b == 0 {
		return answer{hi, len(f.asked), api.OK}
	}
	if sign(a) == sign(b) {
		return answer{0, len(f.asked), api.ErrBracket}
	}
	for {
		m := middle(bigRank(lo), bigRank(hi))
		if m.Cmp(bigRank(lo)) == 0 {
			return answer{lo, len(f.asked), api.OK}
		}
		x := ranked(m)
		v := f.at(x)
		if v != v {
			return answer{0, len(f.asked), api.ErrValue}
		}
		if v == 0 {
			return answer{x, len(f.asked), api.OK}
		}
		if sign(v) == sign(a) {
			lo = x
		} else {
			hi = x
		}
	}
}

func sign(x float64) int {
	switch {
	case x > 0:
		return 1
	case x < 0:
		return -1
	}
	return 0
}

func bigRank(x float64) *big.Int {
	n := new(big.Int).SetUint64(math.Float64bits(math.Abs(x)))
	if math.Signbit(x) {
		n.Neg(n)
	}
	return n
}

// middle is half the sum, rounded down: big's Div rounds down where it divides by what is above 0.
func middle(a, b *big.Int) *big.Int {
	n := new(big.Int).Add(a, b)
	return n.Div(n, big.NewInt(2))
}

func ranked(n *big.Int) float64 {
	x := math.Float64frombits(new(big.Int).Abs(n).Uint64())
	if n.Sign() < 0 {
		return -x
	}
	return x
}

func isNumber(x float64) bool {
	return !math.IsNaN(x) && !math.IsInf(x, 0)
}

// scatter is splitmix64: the same numbers in every run.
func scatter(state *uint64) uint64 {
	*state += 0x9e3779b97f4a7c15
	return mixed(*state)
}

func mixed(z uint64) uint64 {
	z = (z ^ z>>30) * 0xbf58476d1ce4e5b9
	z = (z ^ z>>27) * 0x94d049bb133111eb
	return z ^ z>>31
}

// someNumber is any number by its bits, or an everyday one, now and then one at an edge.
func someNumber(state *uint64) float64 {
	edges := []float64{0, nought, least, -least, 1, -1, 2, greatest, -greatest, 0x1p-1022, -0x1p-1022, 0x1p-30, 0x1p10}
	switch u := scatter(state); u % 4 {
	case 0:
		return edges[u/4%uint64(len(edges))]
	case 1:
		return float64(int(scatter(state)%2001)-1000) / 8
	}
	for {
		if x := math.Float64frombits(scatter(state)); isNumber(x) {
			return x
		}
	}
}

// someFloat is any float, numbers or not.
func someFloat(state *uint64) float64 {
	odd := []float64{nan, -nan, inf, -inf, api.Float(0x7ff0000000000001)}
	if u := scatter(state); u%4 == 0 {
		return odd[u/4%uint64(len(odd))]
	}
	return someNumber(state)
}

// someBracket is two ends that may be: far apart, or with few numbers between them.
func someBracket(state *uint64) (lo, hi float64) {
	for {
		lo = someNumber(state)
		hi = someNumber(state)
		if u := scatter(state); u%3 == 0 {
			hi = lo
			for range 1 + u/3%12 {
				hi = ieee.Up(hi)
			}
		}
		lo, hi = min(lo, hi), max(lo, hi)
		if lo < hi && isNumber(hi) {
			return lo, hi
		}
	}
}

// between is a number from lo to hi, lo itself left out.
func between(state *uint64, lo, hi float64) float64 {
	gap, _ := ieee.Gap(lo, hi)
	low, _ := ieee.Rank(lo)
	x, _ := ieee.At(int(uint64(low) + 1 + scatter(state)%gap))
	return x
}
