package flow_test

import (
	"math"
	"math/big"
	"slices"

	"tenor/api"
	"tenor/count"
	"tenor/curve"
	"tenor/date"
	"tenor/sched"
)

var (
	inf   = math.Inf(1)
	nan   = math.NaN()
	minus = math.Copysign(0, -1)
)

const (
	greatest = math.MaxFloat64
	least    = 0x1p-1074
)

// scatter is splitmix64: the same numbers in every run.
func scatter(state *uint64) uint64 {
	*state += 0x9e3779b97f4a7c15
	z := *state
	z = (z ^ z>>30) * 0xbf58476d1ce4e5b9
	z = (z ^ z>>27) * 0x94d049bb133111eb
	return z ^ z>>31
}

// below is a whole number from 0 to below n.
func below(state *uint64, n int) int {
	return int(scatter(state) % uint64(n))
}

// unit is a number from 0 to below 1.
func unit(state *uint64) float64 {
	return float64(scatter(state)>>11) * 0x1p-53
}

// kinds is all kinds of curves, and counts all day counts.
func kinds() []int {
	return []int{api.IFlat, api.ILinear, api.ICubic, api.ILog}
}

func counts() []int {
	return []int{api.D360, api.D365, api.DAct, api.DBond, api.DEuro, api.DOpen}
}

// week is a calendar of weekends and a holiday; closed, odd and tooMany are calendars that may not be.
func week() api.Calendar {
	return api.Calendar{Weekend: 96, Rules: []api.Rule{{Kind: api.HFix, Month: 5, Day: 1, From: 1900, To: 2199}}}
}

func closed() api.Calendar { return api.Calendar{Weekend: 127} }

func odd() api.Calendar {
	return api.Calendar{Weekend: 96, Rules: []api.Rule{{Kind: api.HDay, Day: 3}, {Kind: 9}}}
}

func tooMany() api.Calendar { return api.Calendar{Rules: make([]api.Rule, api.MaxRules+1)} }

// f is a flow, and pay one in the currency 1.
func f(day int, x float64, cur int) api.Flow { return api.Flow{Day: day, Amount: x, Cur: cur} }

func pay(day int, x float64) api.Flow { return f(day, x, 1) }

// list is an answer of flows.
type list struct {
	l []api.Flow
	e api.Errno
}

func told(l []api.Flow, e api.Errno) list { return list{l, e} }

func flows(l ...api.Flow) list { return list{l, api.OK} }

func wrong(e api.Errno) list { return list{e: e} }

func (a list) is(b list) bool { return a.e == b.e && same(a.l, b.l) }

// same tells whether two lists are the same to the bit; all NaNs are one.
func same(a, b []api.Flow) bool {
	return slices.EqualFunc(a, b, sameFlow)
}

func sameFlow(a, b api.Flow) bool {
	equal := math.Float64bits(a.Amount) == math.Float64bits(b.Amount) || math.IsNaN(a.Amount) && math.IsNaN(b.Amount)
	return equal && a.Day == b.Day && a.Cur == b.Cur
}

func isNumber(x float64) bool { return x-x == 0 }

// rational is the exact value of a number.
func rational(x float64) *big.Rat { return new(big.Rat).SetFloat64(x) }

// times is one step: the exact product, rounded once.
func times(x, y float64) float64 {
	if !isNumber(x) || !isNumber(y) || x == 0 || y == 0 {
		return x * y
	}
	z, _ := new(big.Rat).Mul(rational(x), rational(y)).Float64()
	if z == 0 && math.Signbit(x) != math.Signbit(y) {
		return minus
	}
	return z
}

// plus is one step: the exact sum, rounded once.
func plus(x, y float64) float64 {
	if !isNumber(x) || !isNumber(y) || x == 0 && y == 0 {
		return x + y
	}
	z, _ := new(big.Rat).Add(rational(x), rational(y)).Float64()
	return z
}

// year is near of the fraction of a year.
func year(g api.Leg, p api.Period) (float64, api.Errno) {
	n, d, e := count.Fraction(g.Count, g.Spec.Cal, p.Start, p.End)
	if e != api.OK {
		return 0, e
	}
	y, _ := big.NewRat(int64(n), int64(d)).Float64()
	return y, api.OK
}

// stepLeg is what 14.2 and 14.3 say ahead of the periods.
func stepLeg(g api.Leg, kind int) ([]api.Period, api.Errno) {
	if g.Kind != kind {
		return nil, api.ErrKind
	}
	if g.Cur < 1 || g.Cur > 8 {
		return nil, api.ErrCur
	}
	if !isNumber(g.Notional) || !isNumber(g.Rate) {
		return nil, api.ErrValue
	}
	return sched.Periods(g.Spec)
}

// stepFixed is 14.2, its products in rationals.
func stepFixed(g api.Leg) list {
	periods, e := stepLeg(g, api.LFixed)
	if e != api.OK {
		return wrong(e)
	}
	var l []api.Flow
	for _, p := range periods {
		y, e := year(g, p)
		if e != api.OK {
			return wrong(e)
		}
		amount := times(times(g.Notional, g.Rate), y)
		if !isNumber(amount) {
			return wrong(api.ErrValue)
		}
		l = append(l, f(p.Pay, amount, g.Cur))
	}
	return flows(l...)
}

// stepFloat is 14.3, its products and its sum in rationals.
func stepFloat(g api.Leg, c api.Curve) list {
	periods, e := stepLeg(g, api.LFloat)
	if e != api.OK {
		return wrong(e)
	}
	if e := curve.Check(c); e != api.OK {
		return wrong(e)
	}
	var l []api.Flow
	for _, p := range periods {
		r, e := curve.Forward(c, g.Count, g.Spec.Cal, p.Start, p.End)
		if e != api.OK {
			return wrong(e)
		}
		y, e := year(g, p)
		if e != api.OK {
			return wrong(e)
		}
		amount := times(times(g.Notional, plus(r, g.Rate)), y)
		if !isNumber(amount) {
			return wrong(api.ErrValue)
		}
		l = append(l, f(p.Pay, amount, g.Cur))
	}
	return flows(l...)
}

// stepBond is 14.4.
func stepBond(g api.Leg) list {
	a := stepFixed(g)
	if a.e == api.OK {
		a.l = append(a.l, f(a.l[len(a.l)-1].Day, g.Notional, g.Cur))
	}
	return a
}

// stepCheck is 14.1.
func stepCheck(l []api.Flow) (api.Errno, int) {
	if len(l) > 4096 {
		return api.ErrMany, 0
	}
	for i, x := range l {
		if x.Day < 0 || x.Day > 109572 {
			return api.ErrRange, i
		}
		if !isNumber(x.Amount) {
			return api.ErrValue, i
		}
		if x.Cur < 1 || x.Cur > 8 {
			return api.ErrCur, i
		}
	}
	return api.OK, 0
}

// stepNet is 14.7: currency by currency and day by day, by sums of rationals.
func stepNet(l []api.Flow) list {
	if e, _ := stepCheck(l); e != api.OK {
		return wrong(e)
	}
	var days []int
	for _, x := range l {
		days = append(days, x.Day)
	}
	slices.Sort(days)
	days = slices.Compact(days)
	var netted []api.Flow
	for cur := 1; cur <= 8; cur++ {
		for _, day := range days {
			sum, found := new(big.Rat), false
			for _, x := range l {
				if x.Cur == cur && x.Day == day {
					sum.Add(sum, rational(x.Amount))
					found = true
				}
			}
			if found {
				amount, _ := sum.Float64()
				netted = append(netted, f(day, amount, cur))
			}
		}
	}
	for _, x := range netted {
		if !isNumber(x.Amount) {
			return wrong(api.ErrValue)
		}
	}
	return flows(netted...)
}

// stepShift is 14.6.
func stepShift(l []api.Flow, months int) list {
	var moved []api.Flow
	for _, x := range l {
		day, e := date.Months(x.Day, months, false)
		if e != api.OK {
			return wrong(api.ErrRange)
		}
		moved = append(moved, f(day, x.Amount, x.Cur))
	}
	return flows(moved...)
}

// someAmount gives amounts: everyday ones, noughts, great ones, small ones.
func someAmount(state *uint64) float64 {
	sign := float64(1 - 2*below(state, 2))
	switch below(state, 9) {
	case 0:
		return math.Copysign(0, sign)
	case 1:
		return sign * math.Ldexp(1+unit(state), below(state, 2046)-1023)
	case 2:
		return sign * math.Ldexp(1+unit(state), 1023)
	case 3:
		return sign * float64(1+below(state, 1000)) * least
	}
	return sign * float64(below(state, 100000)) / 8
}

// someFlows is up to n flows that may be, on few days and in few currencies.
func someFlows(state *uint64, n int) []api.Flow {
	days, curs, from := 1+below(state, 20), 1+below(state, 8), below(state, api.LastDay-40)
	var l []api.Flow
	for range below(state, n+1) {
		l = append(l, f(from+2*below(state, days), someAmount(state), 1+below(state, curs)))
	}
	return l
}

// mixed is the list in another order.
func mixed(state *uint64, l []api.Flow) []api.Flow {
	m := slices.Clone(l)
	for i := len(m) - 1; i > 0; i-- {
		j := below(state, i+1)
		m[i], m[j] = m[j], m[i]
	}
	return m
}

// someSpec is a schedule that may be, of some hundred periods at most, and not near the ends of the days.
func someSpec(state *uint64) api.Spec {
	s := api.Spec{N: 1 + below(state, 12), Unit: 1 + below(state, 4), Stub: 1 + below(state, 4), Conv: below(state, 5), Lag: below(state, 4) * below(state, 11), Cal: week()}
	if s.Unit >= api.UMonth {
		s.Roll = below(state, 3)
	}
	step := []int{1, 7, 30, 365}[s.Unit-1] * s.N
	s.Start = 1000 + below(state, 60000)
	s.End = s.Start + 1 + below(state, min(8*step, 20000))
	switch below(state, 5) {
	case 0:
		s.Cal.Weekend = below(state, 127)
	case 1:
		s.Cal = api.Calendar{}
	}
	return s
}

// someLeg is a leg that may be, but for amounts that are too great now and then.
func someLeg(state *uint64, kind int) api.Leg {
	g := api.Leg{Kind: kind, Count: 1 + below(state, 6), Cur: 1 + below(state, 8), Notional: float64(1 + below(state, 1000000)), Rate: unit(state)/16 - 0.01, Spec: someSpec(state)}
	switch below(state, 8) {
	case 0:
		g.Notional = someAmount(state)
	case 1:
		g.Rate = someAmount(state)
	case 2:
		g.Notional = -g.Notional / 3
	}
	return g
}

// someCurve is a curve that may be, most often over all of the leg's days.
func someCurve(state *uint64, s api.Spec) api.Curve {
	c := api.Curve{Base: s.Start - 30 - below(state, 900), Kind: 1 + below(state, 4)}
	last := s.End + 60
	if below(state, 10) == 0 {
		last = s.Start + below(state, s.End-s.Start+1)
	}
	n := 1 + below(state, 9)
	day, fall := c.Base, 1.0
	for i := range n {
		day += max(1, (last-c.Base)/n)
		if i == n-1 {
			day = max(day, last)
		}
		fall *= 0.9 + unit(state)/8
		c.Days, c.Factors = append(c.Days, day), append(c.Factors, fall)
	}
	if below(state, 12) == 0 {
		c.Factors[0] = math.Ldexp(1, below(state, 2000)-1000)
	}
	return c
}
