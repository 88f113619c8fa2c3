package interp_test

import (
	"math"
	"math/big"
	"slices"

	"tenor/api"
	"tenor/fn"
	"tenor/ieee"
)

var (
	inf    = math.Inf(1)
	nan    = math.NaN()
	nought = math.Copysign(0, -1)
)

const (
	least    = 0x1p-1074
	greatest = math.MaxFloat64
)

// scatter is splitmix64: the same numbers in every run.
func scatter(state *uint64) uint64 {
	*state += 0x9e3779b97f4a7c15
	z := *state
	z = (z ^ z>>30) * 0xbf58476d1ce4e5b9
	z = (z ^ z>>27) * 0x94d049bb133111eb
	return z ^ z>>31
}

// below is a whole number from 0 to below n.
func below(state *uint64, n int) int {
	return int(scatter(state) % uint64(n))
}

// unit is a number from 0 to below 1.
func unit(state *uint64) float64 {
	return float64(scatter(state)>>11) * 0x1p-53
}

// kinds is all kinds of tables.
func kinds() []int {
	return []int{api.IFlat, api.ILinear, api.ICubic, api.ILog}
}

// noKinds is ints that are no kinds.
func noKinds() []int {
	return []int{math.MinInt, -1, 0, 5, 9, 256 + api.IFlat, 1<<32 + api.ILog, math.MaxInt}
}

// somePlaces is n places, near to each other or far apart.
func somePlaces(state *uint64, n int) []int {
	gap := []int{2, 12, 100, api.LastDay / n}[below(state, 4)]
	var l []int
	x := below(state, api.LastDay+1-(n-1)*gap)
	for range n {
		l = append(l, x)
		x += 1 + below(state, gap)
	}
	return l
}

// someValue gives values of one sort: everyday ones, few that come again, of all sizes, at the ends, tiny.
func someValue(state *uint64, sort int) float64 {
	switch sort {
	case 0:
		return 2*unit(state) - 1
	case 1:
		return float64(below(state, 7) - 3)
	case 2:
		return math.Ldexp(2*unit(state)-1, below(state, 2098)-1073)
	case 3:
		return []float64{greatest, -greatest, 0, nought, least, -least, 0x1p1022, -0x1p1023, 1, ieee.Down(greatest)}[below(state, 10)]
	}
	return least * float64(below(state, 41)-20)
}

const sorts = 5

// someValues is n values of one sort, now and then in their order or turned round.
func someValues(state *uint64, kind, n int) []float64 {
	sort := below(state, sorts)
	var l []float64
	for range n {
		y := someValue(state, sort)
		if kind == api.ILog {
			y = math.Abs(y) + least
		}
		l = append(l, min(y, greatest))
	}
	switch below(state, 4) {
	case 0:
		slices.Sort(l)
	case 1:
		slices.Sort(l)
		slices.Reverse(l)
	}
	return l
}

// someTable is a table of that kind that may be.
func someTable(state *uint64, kind int) api.Table {
	n := 1 + below(state, 9)
	return api.Table{Kind: kind, X: somePlaces(state, n), Y: someValues(state, kind, n)}
}

// somePlace is a place of the table, now and then one beyond it.
func somePlace(state *uint64, t api.Table) int {
	first, last := t.X[0], t.X[len(t.X)-1]
	switch below(state, 12) {
	case 0:
		return first - 1 - below(state, 3)
	case 1:
		return last + 1 + below(state, 3)
	case 2:
		return t.X[below(state, len(t.X))]
	}
	return first + below(state, last-first+1)
}

func isNumber(x float64) bool {
	return !math.IsNaN(x) && !math.IsInf(x, 0)
}

// exactly is the step between x and y reckoned with fractions and rounded once, so that nothing can be fused; where an operand is no number or the exact answer is 0, the machine's own step, which can't be off there, is asked.
func exactly(x, y, step float64, f func(z, x, y *big.Rat) *big.Rat) float64 {
	if !isNumber(x) || !isNumber(y) {
		return step
	}
	z := f(new(big.Rat), rat(x), rat(y))
	if z.Sign() == 0 {
		return step
	}
	near, _ := z.Float64()
	return near
}

func plus(x, y float64) float64  { return exactly(x, y, x+y, (*big.Rat).Add) }
func minus(x, y float64) float64 { return exactly(x, y, x-y, (*big.Rat).Sub) }
func times(x, y float64) float64 { return exactly(x, y, x*y, (*big.Rat).Mul) }

func over(x, y float64) float64 {
	if y == 0 {
		return x / y
	}
	return exactly(x, y, x/y, (*big.Rat).Quo)
}

func rat(x float64) *big.Rat { return new(big.Rat).SetFloat64(x) }

// weighed is near of the exact sum of whole weights times numbers, divided by a whole number.
func weighed(weights []int, l []float64, by int) float64 {
	sum := new(big.Rat)
	for i, w := range weights {
		p := new(big.Rat).SetInt64(int64(w))
		sum.Add(sum, p.Mul(p, rat(l[i])))
	}
	if sum.Sign() == 0 {
		return 0
	}
	near, _ := sum.Quo(sum, new(big.Rat).SetInt64(int64(by))).Float64()
	return near
}

// answer is what At tells.
type answer struct {
	x float64
	e api.Errno
}

func told(x float64, e api.Errno) answer { return answer{x, e} }

func (a answer) is(b answer) bool { return ieee.Same(a.x, b.x) && a.e == b.e }

// wrong is a refusal by that error.
func wrong(e api.Errno) answer { return answer{0, e} }

// sameList tells whether both lists have the same floats.
func sameList(a, b []float64) bool { return slices.EqualFunc(a, b, ieee.Same) }

// stepFind is 10.2, word by word; -1 beyond the table.
func stepFind(t api.Table, x int) int {
	if x < t.X[0] || x > t.X[len(t.X)-1] {
		return -1
	}
	at := 0
	for k, place := range t.X {
		if place <= x {
			at = k
		}
	}
	return at
}

// stepHeld is v held between a and b, word by word.
func stepHeld(v, a, b float64) float64 {
	var lo, hi float64
	switch {
	case a == b:
		lo, hi = a, a
	case a < b:
		lo, hi = a, b
	default:
		lo, hi = b, a
	}
	switch {
	case v < lo:
		return lo
	case v > hi:
		return hi
	}
	return v
}

// stepSlopes is 10.4, word by word.
func stepSlopes(t api.Table) []float64 {
	n := len(t.X)
	if n == 1 {
		return []float64{0}
	}
	var s, l []float64
	for k := 0; k+1 < n; k++ {
		s = append(s, over(minus(t.Y[k+1], t.Y[k]), float64(t.X[k+1]-t.X[k])))
	}
	l = append(l, s[0])
	for k := 1; k+1 < n; k++ {
		a, b := s[k-1], s[k]
		if a == 0 || b == 0 || a < 0 && b > 0 || a > 0 && b < 0 {
			l = append(l, 0)
			continue
		}
		l = append(l, over(2, plus(over(1, a), over(1, b))))
	}
	return append(l, s[n-2])
}

// stepPoints is 10.5, word by word, of a k that may be.
func stepPoints(t api.Table, k int) []float64 {
	d := stepSlopes(t)
	h := float64(t.X[k+1] - t.X[k])
	c0, c3 := t.Y[k], t.Y[k+1]
	c1 := stepHeld(plus(c0, over(times(d[k], h), 3)), c0, c3)
	c2 := stepHeld(minus(c3, over(times(d[k+1], h), 3)), c1, c3)
	return []float64{c0, c1, c2, c3}
}

// stepAt is 10.3, word by word.
func stepAt(t api.Table, x int) answer {
	k := stepFind(t, x)
	if k < 0 {
		return wrong(api.ErrRange)
	}
	if t.X[k] == x {
		return answer{t.Y[k], api.OK}
	}
	n, i, y0, y1 := t.X[k+1]-t.X[k], x-t.X[k], t.Y[k], t.Y[k+1]
	m := n - i
	switch t.Kind {
	case api.IFlat:
		return answer{y0, api.OK}
	case api.ILinear:
		return answer{weighed([]int{m, i}, []float64{y0, y1}, n), api.OK}
	case api.ICubic:
		return answer{weighed([]int{m * m * m, 3 * m * m * i, 3 * m * i * i, i * i * i}, stepPoints(t, k), n*n*n), api.OK}
	}
	v := fn.Exp(weighed([]int{m, i}, []float64{fn.Ln(y0), fn.Ln(y1)}, n))
	return answer{stepHeld(v, y0, y1), api.OK}
}

// stepFree is what ILog tells ahead of being held, between two nodes.
func stepFree(t api.Table, x int) float64 {
	n, i := t.X[1]-t.X[0], x-t.X[0]
	return fn.Exp(weighed([]int{n - i, i}, []float64{fn.Ln(t.Y[0]), fn.Ln(t.Y[1])}, n))
}
