package risk_test

import (
	"math"
	"math/big"
	"slices"

	"tenor/api"
	"tenor/boot"
	"tenor/curve"
	"tenor/flow"
	"tenor/fn"
)

var (
	inf   = math.Inf(1)
	nan   = math.NaN()
	minus = math.Copysign(0, -1)
)

const (
	greatest   = math.MaxFloat64
	greatest32 = math.MaxFloat32
	least      = 0x1p-1074
)

// scatter is splitmix64: the same numbers in every run.
func scatter(state *uint64) uint64 {
	*state += 0x9e3779b97f4a7c15
	z := *state
	z = (z ^ z>>30) * 0xbf58476d1ce4e5b9
	z = (z ^ z>>27) * 0x94d049bb133111eb
	return z ^ z>>31
}

// below is a whole number from 0 to below n.
func below(state *uint64, n int) int {
	return int(scatter(state) % uint64(n))
}

// unit is a number from 0 to below 1.
func unit(state *uint64) float64 {
	return float64(scatter(state)>>11) * 0x1p-53
}

// kinds is all kinds of curves; near ones are those of which a factor hangs on the two nodes about it alone.
func kinds() []int {
	return []int{api.IFlat, api.ILinear, api.ICubic, api.ILog}
}

func nearKinds() []int {
	return []int{api.IFlat, api.ILinear, api.ILog}
}

// week is a calendar of weekends and a holiday; closed, odd and tooMany are calendars that may not be.
func week() api.Calendar {
	return api.Calendar{Weekend: 96, Rules: []api.Rule{{Kind: api.HFix, Month: 5, Day: 1, From: 1900, To: 2199}}}
}

func closed() api.Calendar { return api.Calendar{Weekend: 127} }

func odd() api.Calendar {
	return api.Calendar{Weekend: 96, Rules: []api.Rule{{Kind: api.HDay, Day: 3}, {Kind: 9}}}
}

func tooMany() api.Calendar { return api.Calendar{Rules: make([]api.Rule, api.MaxRules+1)} }

// f is a flow, and pay one in the currency 1.
func f(day int, x float64, cur int) api.Flow { return api.Flow{Day: day, Amount: x, Cur: cur} }

func pay(day int, x float64) api.Flow { return f(day, x, 1) }

// deposit and swap are quotes.
func deposit(end, count int, rate float32) api.Quote {
	return api.Quote{Kind: api.QDeposit, End: end, Count: count, Rate: rate}
}

func swap(end, count, months int, rate float32) api.Quote {
	return api.Quote{Kind: api.QSwap, End: end, Count: count, N: months, Rate: rate}
}

// answer is numbers that a call tells, one or a list.
type answer struct {
	l []float64
	e api.Errno
}

func value(x ...float64) answer { return answer{x, api.OK} }

func wrong(e api.Errno) answer { return answer{e: e} }

// one is the answer of a call that tells one number. Beside an error it must be +0, which is told by an empty list.
func one(x float64, e api.Errno) answer {
	if e != api.OK && math.Float64bits(x) == 0 {
		return wrong(e)
	}
	return answer{[]float64{x}, e}
}

func list(l []float64, e api.Errno) answer { return answer{l, e} }

func (a answer) is(b answer) bool {
	return a.e == b.e && sameList(a.l, b.l)
}

func sameList(a, b []float64) bool {
	return slices.EqualFunc(a, b, func(x, y float64) bool { return math.Float64bits(x) == math.Float64bits(y) })
}

// bent is a curve that a call tells.
type bent struct {
	c api.Curve
	e api.Errno
}

func told(c api.Curve, e api.Errno) bent { return bent{c, e} }

func refused(e api.Errno) bent { return bent{e: e} }

func (b bent) is(o bent) bool {
	return b.e == o.e && b.c.Base == o.c.Base && b.c.Kind == o.c.Kind && slices.Equal(b.c.Days, o.c.Days) && sameList(b.c.Factors, o.c.Factors)
}

// number is x, or ErrValue, if it is none.
func number(x float64) (float64, api.Errno) {
	if !isNumber(x) {
		return 0, api.ErrValue
	}
	return x, api.OK
}

func isNumber(x float64) bool { return x-x == 0 }

// rational is the exact value of a number, and near the number nearest to an exact value.
func rational(x float64) *big.Rat { return new(big.Rat).SetFloat64(x) }

func near(r *big.Rat) float64 {
	x, _ := r.Float64()
	return x
}

// times and plus are one step each: the exact value, rounded once.
func times(x, y float64) float64 {
	if !isNumber(x) || !isNumber(y) || x == 0 || y == 0 {
		return x * y
	}
	return near(new(big.Rat).Mul(rational(x), rational(y)))
}

func plus(x, y float64) float64 {
	if !isNumber(x) || !isNumber(y) || x == 0 && y == 0 {
		return x + y
	}
	if r := new(big.Rat).Add(rational(x), rational(y)); r.Sign() != 0 {
		return near(r)
	}
	return 0
}

// stepNode is 16.1's factor of one node.
func stepNode(c api.Curve, i int, h float64) float64 {
	years := near(big.NewRat(int64(c.Days[i]-c.Base), 365))
	return times(c.Factors[i], fn.Exp(-times(h, years)))
}

// stepBump and stepParallel are 16.1.
func stepBump(c api.Curve, i int, h float64) bent {
	if e := curve.Check(c); e != api.OK {
		return refused(e)
	}
	if i < 0 || i > len(c.Days)-1 {
		return refused(api.ErrArg)
	}
	return stepNodes(c, []int{i}, h)
}

func stepParallel(c api.Curve, h float64) bent {
	if e := curve.Check(c); e != api.OK {
		return refused(e)
	}
	var all []int
	for i := range c.Days {
		all = append(all, i)
	}
	return stepNodes(c, all, h)
}

func stepNodes(c api.Curve, nodes []int, h float64) bent {
	if !isNumber(h) {
		return refused(api.ErrValue)
	}
	c.Factors = slices.Clone(c.Factors)
	for _, i := range nodes {
		x := stepNode(c, i, h)
		if !isNumber(x) || !(x > 0) {
			return refused(api.ErrValue)
		}
		c.Factors[i] = x
	}
	return told(c, api.OK)
}

// stepPresent is 15.3, its sum in rationals.
func stepPresent(l []api.Flow, cur int, c api.Curve) (float64, api.Errno) {
	if e, _ := flow.Check(l); e != api.OK {
		return 0, e
	}
	if cur < 1 || cur > 8 {
		return 0, api.ErrCur
	}
	if e := curve.Check(c); e != api.OK {
		return 0, e
	}
	sum := new(big.Rat)
	for _, x := range l {
		if x.Cur == cur && x.Day >= c.Base {
			factor, e := curve.Factor(c, x.Day)
			if e != api.OK {
				return 0, e
			}
			sum.Add(sum, new(big.Rat).Mul(rational(x.Amount), rational(factor)))
		}
	}
	return number(near(sum))
}

// stepOn is what the flows are worth on a curve that a call told, or its error.
func stepOn(l []api.Flow, cur int, b bent) (float64, api.Errno) {
	if b.e != api.OK {
		return 0, b.e
	}
	return stepPresent(l, cur, b.c)
}

// stepLadder is 16.2.
func stepLadder(l []api.Flow, cur int, c api.Curve, h float64) answer {
	b, e := stepPresent(l, cur, c)
	if e != api.OK {
		return wrong(e)
	}
	if !isNumber(h) {
		return wrong(api.ErrValue)
	}
	var rungs []float64
	for i := range c.Days {
		v, e := stepOn(l, cur, stepBump(c, i, h))
		if e != api.OK {
			return wrong(e)
		}
		x, e := number(plus(v, -b))
		if e != api.OK {
			return wrong(e)
		}
		rungs = append(rungs, x)
	}
	return list(rungs, api.OK)
}

// stepDelta and stepGamma are 16.3.
func stepDelta(l []api.Flow, cur int, c api.Curve, h float64) answer {
	b, e := stepPresent(l, cur, c)
	if e != api.OK {
		return wrong(e)
	}
	if !isNumber(h) {
		return wrong(api.ErrValue)
	}
	u, e := stepOn(l, cur, stepParallel(c, h))
	if e != api.OK {
		return wrong(e)
	}
	return one(number(plus(u, -b)))
}

func stepGamma(l []api.Flow, cur int, c api.Curve, h float64) answer {
	b, e := stepPresent(l, cur, c)
	if e != api.OK {
		return wrong(e)
	}
	if !isNumber(h) {
		return wrong(api.ErrValue)
	}
	u, e := stepOn(l, cur, stepParallel(c, h))
	if e != api.OK {
		return wrong(e)
	}
	d, e := stepOn(l, cur, stepParallel(c, -h))
	if e != api.OK {
		return wrong(e)
	}
	return one(number(plus(plus(u, -b), -plus(b, -d))))
}

// built is boot's curve without the place.
func built(base, kind int, k api.Calendar, q []api.Quote) bent {
	c, e, _ := boot.Build(base, kind, k, q)
	return bent{c, e}
}

// stepRate is a sum of two binary32, rounded once to a binary32.
func stepRate(r, h float32) float32 {
	if !isNumber(float64(r)) || !isNumber(float64(h)) {
		return r + h
	}
	x, _ := new(big.Rat).Add(rational(float64(r)), rational(float64(h))).Float32()
	return x
}

// stepQuotes is 16.4.
func stepQuotes(l []api.Flow, cur, base, kind int, k api.Calendar, q []api.Quote, h float32) answer {
	first := built(base, kind, k, q)
	b, e := stepOn(l, cur, first)
	if e != api.OK {
		return wrong(e)
	}
	if !isNumber(float64(h)) {
		return wrong(api.ErrValue)
	}
	var moves []float64
	for i := range q {
		m := slices.Clone(q)
		m[i].Rate = stepRate(q[i].Rate, h)
		if !isNumber(float64(m[i].Rate)) {
			return wrong(api.ErrQuote)
		}
		v, e := stepOn(l, cur, built(base, kind, k, m))
		if e != api.OK {
			return wrong(e)
		}
		x, e := number(plus(v, -b))
		if e != api.OK {
			return wrong(e)
		}
		moves = append(moves, x)
	}
	return list(moves, api.OK)
}

// someAmount gives amounts: everyday ones, noughts, great ones, small ones.
func someAmount(state *uint64) float64 {
	sign := float64(1 - 2*below(state, 2))
	switch below(state, 12) {
	case 0:
		return math.Copysign(0, sign)
	case 1:
		return sign * math.Ldexp(1+unit(state), below(state, 2046)-1023)
	case 2:
		return sign * math.Ldexp(1+unit(state), 1023)
	case 3:
		return sign * float64(1+below(state, 1000)) * least
	}
	return sign * float64(below(state, 100000)) / 100
}

// someFactor gives factors: everyday ones, most often; of all sizes now and then.
func someFactor(state *uint64, wild bool) float64 {
	if wild {
		switch below(state, 4) {
		case 0:
			return math.Ldexp(1+unit(state), below(state, 2046)-1023)
		case 1:
			return math.Ldexp(1+unit(state), below(state, 50)-1074)
		}
	}
	return 0.3 + unit(state)
}

// someCurve is a curve of that kind that may be.
func someCurve(state *uint64, kind int) api.Curve {
	n := 1 + below(state, 7)
	gap := []int{2, 12, 400, api.LastDay / (n + 1)}[below(state, 4)]
	c := api.Curve{Base: below(state, api.LastDay+1-n*gap), Kind: kind}
	day, wild := c.Base, below(state, 6) == 0
	for range n {
		day += 1 + below(state, gap)
		c.Days, c.Factors = append(c.Days, day), append(c.Factors, someFactor(state, wild))
	}
	return c
}

// last is the curve's last day.
func last(c api.Curve) int { return c.Days[len(c.Days)-1] }

// someBump gives bumps: everyday ones, noughts, tiny ones, and such that a factor of the curve is at the end of what it can be.
func someBump(state *uint64, c api.Curve) float64 {
	sign := float64(1 - 2*below(state, 2))
	years := float64(c.Days[below(state, len(c.Days))]-c.Base) / 365
	switch below(state, 10) {
	case 0:
		return math.Copysign(0, sign)
	case 1:
		return sign * math.Ldexp(1+unit(state), below(state, 2046)-1023)
	case 2:
		return sign * (700 + 60*unit(state)) / years
	case 3:
		return sign * unit(state) * 600 / years
	case 4:
		return sign * unit(state)
	}
	return sign * math.Ldexp(unit(state), -below(state, 30)) / 16
}

// inside is a day of the curve.
func inside(state *uint64, c api.Curve) int {
	switch below(state, 8) {
	case 0:
		return c.Base
	case 1:
		return last(c)
	case 2:
		return c.Days[below(state, len(c.Days))]
	}
	return c.Base + below(state, last(c)-c.Base+1)
}

// someFlows is up to n flows in few currencies, on days of the curve and ahead of it, and now and then behind it.
func someFlows(state *uint64, n int, c api.Curve) []api.Flow {
	curs := 1 + below(state, 2)
	var l []api.Flow
	for range below(state, n+1) {
		day := inside(state, c)
		switch below(state, 12) {
		case 0:
			day = max(0, c.Base-1-below(state, 9))
		case 1:
			if n < 3 {
				day = min(api.LastDay, last(c)+1+below(state, 9))
			}
		}
		l = append(l, f(day, someAmount(state), 1+below(state, curs)))
	}
	return l
}

// someRate gives rates: everyday ones, nought, great ones, small ones, those below 0.
func someRate(state *uint64) float32 {
	switch below(state, 16) {
	case 0:
		return 0
	case 1:
		return float32(unit(state)) - 0.5
	case 2:
		return float32(math.Ldexp(unit(state), below(state, 40)-30))
	case 3:
		return -float32(unit(state)) / 64
	}
	return 0.01 + float32(unit(state))/16
}

// someQuotes is a base and up to four quotes that may be.
func someQuotes(state *uint64) (int, []api.Quote) {
	n := 1 + below(state, 4)
	gap := []int{5, 40, 400, 1500}[below(state, 4)]
	base := below(state, api.LastDay+1-n*gap)
	end := base
	var l []api.Quote
	for range n {
		end += 1 + below(state, gap)
		q := deposit(end, 1+below(state, 6), someRate(state))
		if below(state, 3) > 0 {
			q.Kind, q.N = api.QSwap, []int{3, 6, 12, 1 + below(state, 120)}[below(state, 4)]
		}
		l = append(l, q)
	}
	return base, l
}
