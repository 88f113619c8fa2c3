package grid_test

import (
	"fmt"
	"math"
	"math/big"
	"slices"

	"tenor/api"
	"tenor/curve"
	"tenor/flow"
	"tenor/fn"
)

var (
	inf   = math.Inf(1)
	nan   = math.NaN()
	minus = math.Copysign(0, -1)
)

const (
	greatest = math.MaxFloat64
	least    = 0x1p-1074
	most     = 1048576 // numbers that may be handed in
)

// scatter is splitmix64: the same numbers in every run.
func scatter(state *uint64) uint64 {
	*state += 0x9e3779b97f4a7c15
	z := *state
	z = (z ^ z>>30) * 0xbf58476d1ce4e5b9
	z = (z ^ z>>27) * 0x94d049bb133111eb
	return z ^ z>>31
}

// below is a whole number from 0 to below n.
func below(state *uint64, n int) int {
	return int(scatter(state) % uint64(n))
}

// unit is a number from 0 to below 1.
func unit(state *uint64) float64 {
	return float64(scatter(state)>>11) * 0x1p-53
}

// shuffle puts a list into another order, in place.
func shuffle[T any](state *uint64, l []T) {
	for i := len(l) - 1; i > 0; i-- {
		j := below(state, i+1)
		l[i], l[j] = l[j], l[i]
	}
}

// kinds is all kinds of curves.
func kinds() []int {
	return []int{api.IFlat, api.ILinear, api.ICubic, api.ILog}
}

// notNumbers is floats that are no numbers.
func notNumbers() []float64 {
	return []float64{nan, inf, -inf, math.Float64frombits(0xfff0000000000001), math.Float64frombits(0x7fffffffffffffff)}
}

// f is a flow, and pay one in the currency 1.
func f(day int, x float64, cur int) api.Flow { return api.Flow{Day: day, Amount: x, Cur: cur} }

func pay(day int, x float64) api.Flow { return f(day, x, 1) }

// all, node and tilt are shifts.
func all(h float64) api.Shift { return api.Shift{Kind: api.GAll, H: h} }

func node(i int, h float64) api.Shift { return api.Shift{Kind: api.GNode, Node: i, H: h} }

func tilt(h float64) api.Shift { return api.Shift{Kind: api.GTilt, H: h} }

// answer is numbers that a call tells, one or a list.
type answer struct {
	l []float64
	e api.Errno
}

func value(x ...float64) answer { return answer{x, api.OK} }

func wrong(e api.Errno) answer { return answer{e: e} }

func list(l []float64, e api.Errno) answer { return answer{l, e} }

// one is the answer of a call that tells one number. Beside an error it must be +0, which is told by an empty list.
func one(x float64, e api.Errno) answer {
	if e != api.OK && math.Float64bits(x) == 0 {
		return wrong(e)
	}
	return answer{[]float64{x}, e}
}

func (a answer) is(b answer) bool { return a.e == b.e && sameList(a.l, b.l) }

func same(x, y float64) bool { return math.Float64bits(x) == math.Float64bits(y) }

func sameList(a, b []float64) bool { return slices.EqualFunc(a, b, same) }

// whole is whole numbers that a call tells, one or a list.
type whole struct {
	l []int
	e api.Errno
}

func counts(l []int, e api.Errno) whole { return whole{l, e} }

func place(n int, e api.Errno) whole {
	if e != api.OK && n == 0 {
		return whole{nil, e}
	}
	return whole{[]int{n}, e}
}

func (w whole) is(o whole) bool { return w.e == o.e && slices.Equal(w.l, o.l) }

// bent is a curve that a call tells.
type bent struct {
	c api.Curve
	e api.Errno
}

func told(c api.Curve, e api.Errno) bent { return bent{c, e} }

func refused(e api.Errno) bent { return bent{e: e} }

func (b bent) is(o bent) bool {
	return b.e == o.e && b.c.Base == o.c.Base && b.c.Kind == o.c.Kind && slices.Equal(b.c.Days, o.c.Days) && sameList(b.c.Factors, o.c.Factors)
}

func isNumber(x float64) bool { return x-x == 0 }

// number is x, or ErrValue, if it is none.
func number(x float64) (float64, api.Errno) {
	if !isNumber(x) {
		return 0, api.ErrValue
	}
	return x, api.OK
}

// rational is the exact value of a number, and near the number nearest to an exact value, of a zero with the value's sign.
func rational(x float64) *big.Rat { return new(big.Rat).SetFloat64(x) }

func near(r *big.Rat) float64 {
	x, _ := r.Float64()
	if x == 0 && r.Sign() < 0 {
		return minus
	}
	return x
}

// times is one step: the exact value, rounded once.
func times(x, y float64) float64 {
	if !isNumber(x) || !isNumber(y) || x == 0 || y == 0 {
		return x * y
	}
	return near(new(big.Rat).Mul(rational(x), rational(y)))
}

// minusStep is x - y, by one step.
func minusStep(x, y float64) float64 {
	r := new(big.Rat).Sub(rational(x), rational(y))
	if r.Sign() == 0 {
		return x - y
	}
	return near(r)
}

// stepApply is 25.1.
func stepApply(c api.Curve, s api.Shift) bent {
	if e := curve.Check(c); e != api.OK {
		return refused(e)
	}
	factors := slices.Clone(c.Factors)
	bumpOf := map[int]func(years float64) float64{
		1: func(float64) float64 { return s.H },
		2: func(float64) float64 { return s.H },
		3: func(years float64) float64 { return times(s.H, years) },
	}[s.Kind]
	switch {
	case bumpOf == nil:
		return refused(api.ErrKind)
	case s.Kind == 2 && (s.Node < 0 || s.Node >= len(factors)), s.Kind != 2 && s.Node != 0:
		return refused(api.ErrArg)
	case !isNumber(s.H):
		return refused(api.ErrValue)
	}
	for i, day := range c.Days {
		if s.Kind == 2 && s.Node != i {
			continue
		}
		years := near(big.NewRat(int64(day-c.Base), 365))
		factors[i] = times(factors[i], fn.Exp(-times(bumpOf(years), years)))
		if !isNumber(factors[i]) || factors[i] <= 0 {
			return refused(api.ErrValue)
		}
	}
	return told(api.Curve{Base: c.Base, Kind: c.Kind, Days: slices.Clone(c.Days), Factors: factors}, api.OK)
}

// stepPresent is 15.3, its sum in rationals.
func stepPresent(l []api.Flow, cur int, c api.Curve) (float64, api.Errno) {
	if e, _ := flow.Check(l); e != api.OK {
		return 0, e
	}
	if cur < 1 || cur > 8 {
		return 0, api.ErrCur
	}
	if e := curve.Check(c); e != api.OK {
		return 0, e
	}
	sum := new(big.Rat)
	for _, x := range l {
		if x.Cur == cur && x.Day >= c.Base {
			factor, e := curve.Factor(c, x.Day)
			if e != api.OK {
				return 0, e
			}
			sum.Add(sum, new(big.Rat).Mul(rational(x.Amount), rational(factor)))
		}
	}
	return number(near(sum))
}

// stepRun is 25.2.
func stepRun(l []api.Flow, cur int, c api.Curve, s []api.Shift) answer {
	if len(s) > 256 {
		return wrong(api.ErrLong)
	}
	v, e := stepPresent(l, cur, c)
	if e != api.OK {
		return wrong(e)
	}
	var moves []float64
	for _, x := range s {
		b := stepApply(c, x)
		if b.e != api.OK {
			return wrong(b.e)
		}
		w, e := stepPresent(l, cur, b.c)
		if e != api.OK {
			return wrong(e)
		}
		d, e := number(minusStep(w, v))
		if e != api.OK {
			return wrong(e)
		}
		moves = append(moves, d)
	}
	return value(moves...)
}

// ahead is whether x stands ahead of y: by values, and the nought below 0 ahead of the other.
func ahead(x, y float64) bool {
	return x < y || x == 0 && y == 0 && math.Signbit(x) && !math.Signbit(y)
}

// stepNumbers is what 25.3 asks of the numbers in all three calls.
func stepNumbers(x []float64) api.Errno {
	switch {
	case len(x) == 0, len(x) > most:
		return api.ErrNodes
	case slices.ContainsFunc(x, func(v float64) bool { return !isNumber(v) }):
		return api.ErrValue
	}
	return api.OK
}

// stepQuantile is 25.3 without sorting: the number that has fewer than k ahead of it, and k with those that are the same.
func stepQuantile(x []float64, p, q int) answer {
	if e := stepNumbers(x); e != api.OK {
		return wrong(e)
	}
	if q < 1 || q > 1000000 || p < 0 || p > q {
		return wrong(api.ErrArg)
	}
	k := 1
	for k*q < len(x)*p {
		k++
	}
	for _, v := range x {
		before, here := 0, 0
		for _, w := range x {
			if ahead(w, v) {
				before++
			}
			if same(w, v) {
				here++
			}
		}
		if before < k && k <= before+here {
			return value(v)
		}
	}
	return wrong(-1)
}

// stepWorst is 25.3: the first number that no other stands ahead of.
func stepWorst(x []float64) whole {
	if e := stepNumbers(x); e != api.OK {
		return whole{nil, e}
	}
	return whole{[]int{slices.IndexFunc(x, func(v float64) bool {
		return !slices.ContainsFunc(x, func(w float64) bool { return ahead(w, v) })
	})}, api.OK}
}

// stepMean is 25.3, the sum in rationals.
func stepMean(x []float64) answer {
	if e := stepNumbers(x); e != api.OK {
		return wrong(e)
	}
	sum := new(big.Rat)
	for _, v := range x {
		sum.Add(sum, rational(v))
	}
	return value(near(sum.Quo(sum, big.NewRat(int64(len(x)), 1))))
}

// stepCount is 25.4: each number is held against each edge.
func stepCount(x, edges []float64) whole {
	switch {
	case len(edges) > 256:
		return whole{nil, api.ErrLong}
	case len(edges) == 0 || len(x) > most:
		return whole{nil, api.ErrNodes}
	case len(x) > 0 && stepNumbers(x) != api.OK, stepNumbers(edges) != api.OK:
		return whole{nil, api.ErrValue}
	}
	for i := 1; i < len(edges); i++ {
		if edges[i] <= edges[i-1] {
			return whole{nil, api.ErrArg}
		}
	}
	l := make([]int, len(edges)+1)
	for _, v := range x {
		n := 0
		for _, edge := range edges {
			if v >= edge {
				n++
			}
		}
		l[n]++
	}
	return whole{l, api.OK}
}

// someNumber gives numbers: everyday ones, few of them so that they come again, noughts, great ones, small ones.
func someNumber(state *uint64) float64 {
	sign := float64(1 - 2*below(state, 2))
	switch below(state, 12) {
	case 0:
		return math.Copysign(0, sign)
	case 1:
		return sign * math.Ldexp(1+unit(state), below(state, 2046)-1023)
	case 2:
		return sign * math.Ldexp(1+unit(state), 1023)
	case 3:
		return sign * float64(1+below(state, 3)) * least
	case 4, 5, 6:
		return sign * float64(below(state, 4))
	}
	return sign * float64(below(state, 100000)) / 100
}

// someNumbers is n numbers, and now and then one among them that is none.
func someNumbers(state *uint64, n int) []float64 {
	var l []float64
	for range n {
		l = append(l, someNumber(state))
	}
	if n > 0 && below(state, 12) == 0 {
		l[below(state, n)] = notNumbers()[below(state, len(notNumbers()))]
	}
	return l
}

// someEdges is up to n edges that rise, but now and then for one of them.
func someEdges(state *uint64, x []float64, n int) []float64 {
	l := someNumbers(state, below(state, n+1))
	for i := range l {
		if len(x) > 0 && below(state, 2) == 0 {
			l[i] = x[below(state, len(x))]
		}
	}
	slices.Sort(l)
	l = slices.CompactFunc(l, func(x, y float64) bool { return x == y })
	if len(l) > 1 && below(state, 8) == 0 {
		i := below(state, len(l)-1)
		l[i+1] = []float64{l[i], -l[i], minus}[below(state, 3)]
	}
	return l
}

// someFactor gives factors: everyday ones, most often; of all sizes now and then.
func someFactor(state *uint64, wild bool) float64 {
	if wild {
		switch below(state, 4) {
		case 0:
			return math.Ldexp(1+unit(state), below(state, 2046)-1023)
		case 1:
			return math.Ldexp(1+unit(state), below(state, 50)-1074)
		}
	}
	return 0.3 + unit(state)
}

// someCurve is a curve of that kind that may be.
func someCurve(state *uint64, kind int) api.Curve {
	n := 1 + below(state, 7)
	gap := []int{2, 12, 400, api.LastDay / (n + 1)}[below(state, 4)]
	c := api.Curve{Base: below(state, api.LastDay+1-n*gap), Kind: kind}
	day, wild := c.Base, below(state, 6) == 0
	for range n {
		day += 1 + below(state, gap)
		c.Days, c.Factors = append(c.Days, day), append(c.Factors, someFactor(state, wild))
	}
	return c
}

// last is the curve's last day.
func last(c api.Curve) int { return c.Days[len(c.Days)-1] }

// someBump gives bumps: everyday ones, noughts, of all sizes, and such that a factor of the curve is at the end of what it can be, bumped or tilted.
func someBump(state *uint64, c api.Curve) float64 {
	sign := float64(1 - 2*below(state, 2))
	years := float64(c.Days[below(state, len(c.Days))]-c.Base) / 365
	if below(state, 2) == 0 {
		years *= years
	}
	switch below(state, 12) {
	case 0:
		return math.Copysign(0, sign)
	case 1:
		return sign * math.Ldexp(1+unit(state), below(state, 2046)-1023)
	case 2:
		return sign * (700 + 60*unit(state)) / years
	case 3:
		return sign * unit(state) * 600 / years
	case 4:
		return sign * unit(state)
	case 5:
		if below(state, 3) == 0 {
			return notNumbers()[below(state, len(notNumbers()))]
		}
	}
	return sign * math.Ldexp(unit(state), -below(state, 30)) / 16
}

// someShift is a shift, seldom of no kind, or with a node that may not be.
func someShift(state *uint64, c api.Curve) api.Shift {
	s := api.Shift{Kind: 1 + below(state, 3), H: someBump(state, c)}
	if s.Kind == api.GNode {
		s.Node = below(state, len(c.Days))
	}
	switch below(state, 16) {
	case 0:
		s.Kind = []int{0, 4, -1}[below(state, 3)]
	case 1:
		s.Node = []int{-1, 1, len(c.Days)}[below(state, 3)]
	}
	return s
}

// inside is a day of the curve.
func inside(state *uint64, c api.Curve) int {
	switch below(state, 8) {
	case 0:
		return c.Base
	case 1:
		return last(c)
	case 2:
		return c.Days[below(state, len(c.Days))]
	}
	return c.Base + below(state, last(c)-c.Base+1)
}

// someFlows is up to n flows in few currencies, on days of the curve and ahead of it, and seldom behind it.
func someFlows(state *uint64, n int, c api.Curve) []api.Flow {
	curs := 1 + below(state, 2)
	var l []api.Flow
	for range below(state, n+1) {
		day := inside(state, c)
		switch below(state, 40) {
		case 0, 1:
			day = max(0, c.Base-1-below(state, 9))
		case 2:
			day = min(api.LastDay, last(c)+1+below(state, 9))
		}
		l = append(l, f(day, someNumber(state), 1+below(state, curs)))
	}
	return l
}

// short is a list for a message: only the beginning of a long one.
func short(l []float64) string {
	if len(l) > 30 {
		return fmt.Sprintf("%x and %d more", l[:30], len(l)-30)
	}
	return fmt.Sprintf("%x", l)
}
