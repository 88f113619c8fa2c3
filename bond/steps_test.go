package bond_test

import (
	"math"
	"math/big"
	"slices"

	"tenor/api"
	"tenor/count"
	"tenor/curve"
	"tenor/rate"
	"tenor/sched"
)

var (
	inf   = math.Inf(1)
	nan   = math.NaN()
	minus = math.Copysign(0, -1)
)

const (
	greatest = math.MaxFloat64
	least    = 0x1p-1074
)

// scatter is splitmix64: the same numbers in every run.
func scatter(state *uint64) uint64 {
	*state += 0x9e3779b97f4a7c15
	z := *state
	z = (z ^ z>>30) * 0xbf58476d1ce4e5b9
	z = (z ^ z>>27) * 0x94d049bb133111eb
	return z ^ z>>31
}

// below is a whole number from 0 to below n.
func below(state *uint64, n int) int {
	return int(scatter(state) % uint64(n))
}

// unit is a number from 0 to below 1.
func unit(state *uint64) float64 {
	return float64(scatter(state)>>11) * 0x1p-53
}

// counts is all day counts; plain is those that ask for no calendar.
func counts() []int {
	return append(plain(), api.DOpen)
}

func plain() []int {
	return []int{api.D360, api.D365, api.DAct, api.DBond, api.DEuro}
}

// rates is all kinds of rates.
func rates() []int {
	return []int{api.KSimple, api.KAnnual, api.KSemi, api.KQuarter, api.KMonth, api.KCont}
}

// curves is all kinds of curves.
func curves() []int {
	return []int{api.IFlat, api.ILinear, api.ICubic, api.ILog}
}

// outside is ints that are beyond the kinds from least to greatest.
func outside(least, greatest int) []int {
	return []int{math.MinInt, -1, least - 1, greatest + 1, 256 + least, 1<<32 + greatest, math.MaxInt}
}

func noDays() []int {
	return []int{math.MinInt, -1, api.LastDay + 1, 1<<32 + 5, math.MaxInt}
}

// notNumbers is floats that are no numbers.
func notNumbers() []float64 { return []float64{nan, inf, -inf} }

// week is a calendar of weekends and a holiday; closed, odd and tooMany are calendars that may not be.
func week() api.Calendar {
	return api.Calendar{Weekend: 96, Rules: []api.Rule{{Kind: api.HFix, Month: 5, Day: 1, From: 1900, To: 2199}}}
}

func closed() api.Calendar { return api.Calendar{Weekend: 127} }

func odd() api.Calendar {
	return api.Calendar{Weekend: 96, Rules: []api.Rule{{Kind: api.HDay, Day: 3}, {Kind: 9}}}
}

func tooMany() api.Calendar { return api.Calendar{Rules: make([]api.Rule, api.MaxRules+1)} }

// f is a flow, and pay one in the currency 1.
func f(day int, x float64, cur int) api.Flow { return api.Flow{Day: day, Amount: x, Cur: cur} }

func pay(day int, x float64) api.Flow { return f(day, x, 1) }

// answer is what a call tells.
type answer struct {
	x float64
	e api.Errno
}

func told(x float64, e api.Errno) answer { return answer{x, e} }

func value(x float64) answer { return answer{x, api.OK} }

func wrong(e api.Errno) answer { return answer{e: e} }

func (a answer) is(b answer) bool {
	return a.e == b.e && math.Float64bits(a.x) == math.Float64bits(b.x)
}

// number is x, or ErrValue, if it is none.
func number(x float64) answer {
	if !isNumber(x) {
		return wrong(api.ErrValue)
	}
	return value(x)
}

func isNumber(x float64) bool { return x-x == 0 }

// rational is the exact value of a number, and near the number nearest to an exact value, of a zero with the value's sign.
func rational(x float64) *big.Rat { return new(big.Rat).SetFloat64(x) }

func near(r *big.Rat) float64 {
	x, _ := r.Float64()
	if x == 0 && r.Sign() < 0 {
		return minus
	}
	return x
}

// times, plus, less, over are one step each: the exact value, rounded once; where an operand is no number or a zero, the machine's own step, which cannot be off there.
func times(x, y float64) float64 {
	if !isNumber(x) || !isNumber(y) || x == 0 || y == 0 {
		return x * y
	}
	return near(new(big.Rat).Mul(rational(x), rational(y)))
}

func plus(x, y float64) float64 {
	if !isNumber(x) || !isNumber(y) || x == 0 && y == 0 {
		return x + y
	}
	return near(new(big.Rat).Add(rational(x), rational(y)))
}

func less(x, y float64) float64 { return plus(x, -y) }

func over(x, y float64) float64 {
	if !isNumber(x) || !isNumber(y) || x == 0 || y == 0 {
		return x / y
	}
	return near(new(big.Rat).Quo(rational(x), rational(y)))
}

// year is near of the fraction of a year.
func year(kind int, c api.Calendar, a, b int) (float64, api.Errno) {
	p, q, e := count.Fraction(kind, c, a, b)
	if e != api.OK {
		return 0, e
	}
	return near(big.NewRat(int64(p), int64(q))), api.OK
}

// stepFixed is 14.2: the flows, their periods, and the error.
func stepFixed(g api.Leg) ([]api.Flow, []api.Period, api.Errno) {
	if g.Kind != api.LFixed {
		return nil, nil, api.ErrKind
	}
	if g.Cur < 1 || g.Cur > 8 {
		return nil, nil, api.ErrCur
	}
	if !isNumber(g.Notional) || !isNumber(g.Rate) {
		return nil, nil, api.ErrValue
	}
	periods, e := sched.Periods(g.Spec)
	if e != api.OK {
		return nil, nil, e
	}
	var l []api.Flow
	for _, p := range periods {
		y, e := year(g.Count, g.Spec.Cal, p.Start, p.End)
		if e != api.OK {
			return nil, nil, e
		}
		amount := times(times(g.Notional, g.Rate), y)
		if !isNumber(amount) {
			return nil, nil, api.ErrValue
		}
		l = append(l, f(p.Pay, amount, g.Cur))
	}
	return l, periods, api.OK
}

// stepAccrued is 22.1.
func stepAccrued(g api.Leg, n int) answer {
	_, periods, e := stepFixed(g)
	if e != api.OK {
		return wrong(e)
	}
	if n < 0 || n > 109572 {
		return wrong(api.ErrRange)
	}
	i := slices.IndexFunc(periods, func(p api.Period) bool { return !(p.Start > n) && n < p.End })
	if i < 0 {
		return value(0)
	}
	y, e := year(g.Count, g.Spec.Cal, periods[i].Start, n)
	if e != api.OK {
		return wrong(e)
	}
	return value(times(times(g.Notional, g.Rate), y))
}

// stepDirty is the first half of 22.2, with 14.4 and 15.3.
func stepDirty(g api.Leg, c api.Curve) answer {
	l, _, e := stepFixed(g)
	if e != api.OK {
		return wrong(e)
	}
	if e := curve.Check(c); e != api.OK {
		return wrong(e)
	}
	sum := new(big.Rat)
	for _, x := range append(l, f(l[len(l)-1].Day, g.Notional, g.Cur)) {
		if x.Day < c.Base {
			continue
		}
		factor, e := curve.Factor(c, x.Day)
		if e != api.OK {
			return wrong(e)
		}
		sum.Add(sum, new(big.Rat).Mul(rational(x.Amount), rational(factor)))
	}
	return number(near(sum))
}

// stepClean is the second half of 22.2.
func stepClean(g api.Leg, c api.Curve) answer {
	dirty := stepDirty(g, c)
	if dirty.e != api.OK {
		return dirty
	}
	accrued := stepAccrued(g, c.Base)
	if accrued.e != api.OK {
		return accrued
	}
	return number(less(dirty.x, accrued.x))
}

// asked is what Worth, Yield and Duration are asked of.
type asked struct {
	l                      []api.Flow
	cur, kind, count, base int
}

// stepCheck is 14.1 without the place, and what 22.3 says ahead of y.
func (a asked) stepCheck() api.Errno {
	if len(a.l) > 4096 {
		return api.ErrMany
	}
	for _, x := range a.l {
		if x.Day < 0 || x.Day > 109572 {
			return api.ErrRange
		}
		if !isNumber(x.Amount) {
			return api.ErrValue
		}
		if x.Cur < 1 || x.Cur > 8 {
			return api.ErrCur
		}
	}
	if a.cur < 1 || a.cur > 8 {
		return api.ErrCur
	}
	if !slices.Contains(rates(), a.kind) {
		return api.ErrKind
	}
	if !slices.Contains(plain(), a.count) {
		return api.ErrCount
	}
	if a.base < 0 || a.base > 109572 {
		return api.ErrRange
	}
	return api.OK
}

// stepWorth is 22.3, its sum in rationals.
func (a asked) stepWorth(y float64) answer {
	if e := a.stepCheck(); e != api.OK {
		return wrong(e)
	}
	if !isNumber(y) {
		return wrong(api.ErrValue)
	}
	sum := new(big.Rat)
	for _, x := range a.l {
		if x.Cur != a.cur || x.Day <= a.base {
			continue
		}
		t, e := year(a.count, api.Calendar{}, a.base, x.Day)
		if e != api.OK {
			return wrong(e)
		}
		factor, e := rate.Factor(a.kind, y, t)
		if e != api.OK {
			return wrong(e)
		}
		sum.Add(sum, new(big.Rat).Mul(rational(x.Amount), rational(factor)))
	}
	return number(near(sum))
}

// stepYield is 22.4 with 12.1, its ranks in big integers.
func (a asked) stepYield(price float64) answer {
	if e := a.stepCheck(); e != api.OK {
		return wrong(e)
	}
	if !isNumber(price) {
		return wrong(api.ErrValue)
	}
	at := func(y float64) float64 {
		w := a.stepWorth(y)
		if w.e != api.OK {
			return nan
		}
		return less(w.x, price)
	}
	lo, hi := big.NewInt(-0x3fe0000000000000), big.NewInt(0x4010000000000000)
	first, last := at(-0.5), at(4)
	switch {
	case first != first || last != last:
		return wrong(api.ErrValue)
	case first == 0:
		return value(-0.5)
	case last == 0:
		return value(4)
	case (first > 0) == (last > 0):
		return wrong(api.ErrBracket)
	}
	for {
		sum := new(big.Int).Add(lo, hi)
		m := sum.Div(sum, big.NewInt(2))
		if m.Cmp(lo) == 0 {
			return value(ranked(lo))
		}
		switch v := at(ranked(m)); {
		case v != v:
			return wrong(api.ErrValue)
		case v == 0:
			return value(ranked(m))
		case (v > 0) == (first > 0):
			lo = m
		default:
			hi = m
		}
	}
}

func ranked(n *big.Int) float64 {
	x := math.Float64frombits(new(big.Int).Abs(n).Uint64())
	if n.Sign() < 0 {
		return -x
	}
	return x
}

// stepDuration is 22.5.
func (a asked) stepDuration(y, h float64) answer {
	v := a.stepWorth(y)
	if v.e != api.OK {
		return v
	}
	if !isNumber(h) || !(h > 0) {
		return wrong(api.ErrValue)
	}
	low := a.stepWorth(less(y, h))
	if low.e != api.OK {
		return low
	}
	high := a.stepWorth(plus(y, h))
	if high.e != api.OK {
		return high
	}
	if v.x == 0 {
		return wrong(api.ErrValue)
	}
	return number(over(over(less(low.x, high.x), times(2, h)), v.x))
}

// someAmount gives amounts: everyday ones, noughts, great ones, small ones.
func someAmount(state *uint64) float64 {
	sign := float64(1 - 2*below(state, 2))
	switch below(state, 9) {
	case 0:
		return math.Copysign(0, sign)
	case 1:
		return sign * math.Ldexp(1+unit(state), below(state, 2046)-1023)
	case 2:
		return sign * math.Ldexp(1+unit(state), 1023)
	case 3:
		return sign * float64(1+below(state, 1000)) * least
	}
	return sign * float64(below(state, 100000)) / 100
}

// someSpec is a schedule that may be, of some hundred periods at most, and not near the ends of the days.
func someSpec(state *uint64) api.Spec {
	s := api.Spec{N: 1 + below(state, 12), Unit: 1 + below(state, 4), Stub: 1 + below(state, 4), Conv: below(state, 5), Lag: below(state, 4) * below(state, 11), Cal: week()}
	if s.Unit >= api.UMonth {
		s.Roll = below(state, 3)
	}
	step := []int{1, 7, 30, 365}[s.Unit-1] * s.N
	s.Start = 1000 + below(state, 60000)
	s.End = s.Start + 1 + below(state, min(8*step, 20000))
	switch below(state, 5) {
	case 0:
		s.Cal.Weekend = below(state, 127)
	case 1:
		s.Cal = api.Calendar{}
	}
	return s
}

// someLeg is a leg that may be, but for amounts that are too great now and then.
func someLeg(state *uint64) api.Leg {
	g := api.Leg{Kind: api.LFixed, Count: 1 + below(state, 6), Cur: 1 + below(state, 8), Notional: float64(1 + below(state, 1000000)), Rate: unit(state)/16 - 0.01, Spec: someSpec(state)}
	switch below(state, 8) {
	case 0:
		g.Notional = someAmount(state)
	case 1:
		g.Rate = someAmount(state)
	case 2:
		g.Notional = -g.Notional / 3
	}
	return g
}

// curveFor is a curve that may be, most often over all of the schedule's days that its base is not behind.
func curveFor(state *uint64, s api.Spec) api.Curve {
	c := api.Curve{Base: s.Start - 40 + below(state, s.End-s.Start+60), Kind: 1 + below(state, 4)}
	end := max(s.End, c.Base) + 60
	if below(state, 8) == 0 {
		end = c.Base + 1 + below(state, 60)
	}
	n := 1 + below(state, 9)
	day, fall, wild := c.Base, 1.0, below(state, 8) == 0
	for i := range n {
		day += max(1, (end-c.Base)/n)
		if i == n-1 {
			day = max(day, end)
		}
		fall *= 0.9 + unit(state)/8
		if wild {
			fall = math.Ldexp(1+unit(state), below(state, 2000)-1000)
		}
		c.Days, c.Factors = append(c.Days, day), append(c.Factors, fall)
	}
	return c
}

// someDay is a day about that one, as often as not near it.
func someDay(state *uint64, about int) int {
	far := []int{3, 40, 800, 12000, api.LastDay}[below(state, 5)]
	return max(0, min(api.LastDay, about-far/8+below(state, far)))
}

// someAsked is up to n flows, most of them behind the base, on which Worth can be asked; everyday amounts, unless it is wild.
func someAsked(state *uint64, n int, wild bool) asked {
	a := asked{cur: 1 + below(state, 2), kind: 1 + below(state, 6), count: 1 + below(state, 5), base: below(state, api.LastDay+1)}
	for range below(state, n+1) {
		amount := float64(below(state, 100000)) / 100
		if wild {
			amount = someAmount(state)
		}
		a.l = append(a.l, f(someDay(state, a.base), amount, 1+below(state, 2)))
	}
	return a
}

// someYield is a yield of everyday size most often.
func someYield(state *uint64) float64 {
	switch below(state, 8) {
	case 0:
		return []float64{0, minus, -0.5, 4, least, -least, -1, -12, greatest, -greatest}[below(state, 10)]
	case 1:
		return 5*unit(state) - 1
	case 2:
		return math.Ldexp(2*unit(state)-1, below(state, 40)-30)
	}
	return unit(state)/5 - 0.02
}

// mixed is the list in another order.
func mixed(state *uint64, l []api.Flow) []api.Flow {
	m := slices.Clone(l)
	for i := len(m) - 1; i > 0; i-- {
		j := below(state, i+1)
		m[i], m[j] = m[j], m[i]
	}
	return m
}
