package price_test

import (
	"math"
	"math/big"
	"slices"
	"testing"

	"tenor/api"
	"tenor/count"
	"tenor/curve"
	"tenor/price"
	"tenor/sched"
)

var (
	inf   = math.Inf(1)
	nan   = math.NaN()
	minus = math.Copysign(0, -1)
)

const (
	greatest = math.MaxFloat64
	least    = 0x1p-1074
)

// scatter is splitmix64: the same numbers in every run.
func scatter(state *uint64) uint64 {
	*state += 0x9e3779b97f4a7c15
	z := *state
	z = (z ^ z>>30) * 0xbf58476d1ce4e5b9
	z = (z ^ z>>27) * 0x94d049bb133111eb
	return z ^ z>>31
}

// below is a whole number from 0 to below n.
func below(state *uint64, n int) int {
	return int(scatter(state) % uint64(n))
}

// unit is a number from 0 to below 1.
func unit(state *uint64) float64 {
	return float64(scatter(state)>>11) * 0x1p-53
}

// kinds is all kinds of curves, and counts all day counts.
func kinds() []int {
	return []int{api.IFlat, api.ILinear, api.ICubic, api.ILog}
}

func counts() []int {
	return []int{api.D360, api.D365, api.DAct, api.DBond, api.DEuro, api.DOpen}
}

// noCurs is ints that are no currencies.
func noCurs() []int {
	return []int{math.MinInt, -1, 0, 9, 256 + 1, 1<<32 + 8, math.MaxInt}
}

// week is a calendar of weekends and a holiday; closed, odd and tooMany are calendars that may not be.
func week() api.Calendar {
	return api.Calendar{Weekend: 96, Rules: []api.Rule{{Kind: api.HFix, Month: 5, Day: 1, From: 1900, To: 2199}}}
}

func closed() api.Calendar { return api.Calendar{Weekend: 127} }

func odd() api.Calendar {
	return api.Calendar{Weekend: 96, Rules: []api.Rule{{Kind: api.HDay, Day: 3}, {Kind: 9}}}
}

func tooMany() api.Calendar { return api.Calendar{Rules: make([]api.Rule, api.MaxRules+1)} }

// f is a flow, and pay one in the currency 1.
func f(day int, x float64, cur int) api.Flow { return api.Flow{Day: day, Amount: x, Cur: cur} }

func pay(day int, x float64) api.Flow { return f(day, x, 1) }

// answer is what a call tells.
type answer struct {
	x float64
	e api.Errno
}

func told(x float64, e api.Errno) answer { return answer{x, e} }

func value(x float64) answer { return answer{x, api.OK} }

func wrong(e api.Errno) answer { return answer{e: e} }

func (a answer) is(b answer) bool {
	return a.e == b.e && math.Float64bits(a.x) == math.Float64bits(b.x)
}

// number is x, or ErrValue, if it is none.
func number(x float64) answer {
	if !isNumber(x) {
		return wrong(api.ErrValue)
	}
	return value(x)
}

func isNumber(x float64) bool { return x-x == 0 }

// rational is the exact value of a number, and near the number nearest to an exact value.
func rational(x float64) *big.Rat { return new(big.Rat).SetFloat64(x) }

func near(r *big.Rat) float64 {
	x, _ := r.Float64()
	return x
}

// times, plus, over are one step each: the exact value, rounded once.
func times(x, y float64) float64 {
	if !isNumber(x) || !isNumber(y) || x == 0 || y == 0 {
		return x * y
	}
	return near(new(big.Rat).Mul(rational(x), rational(y)))
}

func plus(x, y float64) float64 {
	if !isNumber(x) || !isNumber(y) || x == 0 && y == 0 {
		return x + y
	}
	return near(new(big.Rat).Add(rational(x), rational(y)))
}

func over(x, y float64) float64 {
	if !isNumber(x) || !isNumber(y) || x == 0 || y == 0 {
		return x / y
	}
	return near(new(big.Rat).Quo(rational(x), rational(y)))
}

// stepCheck is 14.1 without the place.
func stepCheck(l []api.Flow) api.Errno {
	if len(l) > 4096 {
		return api.ErrMany
	}
	for _, x := range l {
		if x.Day < 0 || x.Day > 109572 {
			return api.ErrRange
		}
		if !isNumber(x.Amount) {
			return api.ErrValue
		}
		if x.Cur < 1 || x.Cur > 8 {
			return api.ErrCur
		}
	}
	return api.OK
}

// stepCounted is which amounts and factors 15.1 counts.
func stepCounted(l []api.Flow, cur int, c api.Curve) ([][2]float64, api.Errno) {
	if e := stepCheck(l); e != api.OK {
		return nil, e
	}
	if cur < 1 || cur > 8 {
		return nil, api.ErrCur
	}
	if e := curve.Check(c); e != api.OK {
		return nil, e
	}
	var counted [][2]float64
	for _, x := range l {
		if x.Cur == cur && x.Day >= c.Base {
			if x.Day > c.Days[len(c.Days)-1] {
				return nil, api.ErrRange
			}
			factor, e := curve.Factor(c, x.Day)
			if e != api.OK {
				return nil, e
			}
			counted = append(counted, [2]float64{x.Amount, factor})
		}
	}
	return counted, api.OK
}

// stepOf is 15.1 in rationals.
func stepOf(l []api.Flow, cur int, c api.Curve) (*big.Rat, api.Errno) {
	counted, e := stepCounted(l, cur, c)
	if e != api.OK {
		return nil, e
	}
	sum := new(big.Rat)
	for _, x := range counted {
		sum.Add(sum, new(big.Rat).Mul(rational(x[0]), rational(x[1])))
	}
	return sum, api.OK
}

// stepPresent and stepFlat are 15.3.
func stepPresent(l []api.Flow, cur int, c api.Curve) answer {
	sum, e := stepOf(l, cur, c)
	if e != api.OK {
		return wrong(e)
	}
	return number(near(sum))
}

func stepFlat(l []api.Flow, cur int, c api.Curve) answer {
	counted, e := stepCounted(l, cur, c)
	if e != api.OK {
		return wrong(e)
	}
	s := 0.0
	for _, x := range counted {
		s = plus(s, times(x[0], x[1]))
	}
	return number(s)
}

// stepPar is 15.4, its sum in rationals.
func stepPar(g api.Leg, c api.Curve) answer {
	if g.Kind != api.LFixed {
		return wrong(api.ErrKind)
	}
	if g.Cur < 1 || g.Cur > 8 {
		return wrong(api.ErrCur)
	}
	if !isNumber(g.Notional) || !(g.Notional > 0) {
		return wrong(api.ErrValue)
	}
	periods, e := sched.Periods(g.Spec)
	if e != api.OK {
		return wrong(e)
	}
	if e := curve.Check(c); e != api.OK {
		return wrong(e)
	}
	sum := new(big.Rat)
	for _, p := range periods {
		n, d, e := count.Fraction(g.Count, g.Spec.Cal, p.Start, p.End)
		if e != api.OK {
			return wrong(e)
		}
		factor, e := curve.Factor(c, p.Pay)
		if e != api.OK {
			return wrong(e)
		}
		y := near(big.NewRat(int64(n), int64(d)))
		sum.Add(sum, new(big.Rat).Mul(rational(y), rational(factor)))
	}
	first, e := curve.Factor(c, periods[0].Start)
	if e != api.OK {
		return wrong(e)
	}
	last, _ := curve.Factor(c, periods[len(periods)-1].Pay)
	a := near(sum)
	if !(a > 0) {
		return wrong(api.ErrValue)
	}
	return number(over(plus(first, -last), a))
}

// worthOf is the worth that has that exact value: made of numbers on days of a great factor, of 1, and of the least one.
func worthOf(t *testing.T, r *big.Rat) *price.Worth {
	t.Helper()
	c := api.Curve{Kind: api.IFlat, Days: []int{1, 2}, Factors: []float64{0x1p1023, least}}
	rest := new(big.Rat).Set(r)
	var l []api.Flow
	for _, x := range []struct {
		day            int
		factor, lowest float64
	}{{1, 0x1p1023, 1}, {0, 1, 0x1p-900}, {2, least, least}} {
		for rest.Sign() != 0 && len(l) < api.MaxFlows {
			amount := near(new(big.Rat).Quo(rest, rational(x.factor)))
			amount = max(-greatest, min(greatest, amount))
			if math.Abs(amount) < x.lowest {
				break
			}
			l = append(l, pay(x.day, amount))
			rest.Sub(rest, new(big.Rat).Mul(rational(amount), rational(x.factor)))
		}
	}
	w, e := price.Of(l, 1, c)
	if e != api.OK || rest.Sign() != 0 {
		t.Fatalf("no worth of %v: %v", r, e)
	}
	return w
}

// someAmount gives amounts: everyday ones, noughts, great ones, small ones.
func someAmount(state *uint64) float64 {
	sign := float64(1 - 2*below(state, 2))
	switch below(state, 9) {
	case 0:
		return math.Copysign(0, sign)
	case 1:
		return sign * math.Ldexp(1+unit(state), below(state, 2046)-1023)
	case 2:
		return sign * math.Ldexp(1+unit(state), 1023)
	case 3:
		return sign * float64(1+below(state, 1000)) * least
	}
	return sign * float64(below(state, 100000)) / 100
}

// someFactor gives factors: everyday ones, most often; of all sizes now and then.
func someFactor(state *uint64, wild bool) float64 {
	if wild {
		switch below(state, 4) {
		case 0:
			return math.Ldexp(1+unit(state), below(state, 2046)-1023)
		case 1:
			return math.Ldexp(1+unit(state), below(state, 50)-1074)
		}
	}
	return 0.3 + unit(state)
}

// someCurve is a curve of that kind that may be.
func someCurve(state *uint64, kind int) api.Curve {
	n := 1 + below(state, 9)
	gap := []int{2, 12, 400, api.LastDay / (n + 1)}[below(state, 4)]
	c := api.Curve{Base: below(state, api.LastDay+1-n*gap), Kind: kind}
	day, wild := c.Base, below(state, 4) == 0
	for range n {
		day += 1 + below(state, gap)
		c.Days, c.Factors = append(c.Days, day), append(c.Factors, someFactor(state, wild))
	}
	return c
}

// last is the curve's last day.
func last(c api.Curve) int { return c.Days[len(c.Days)-1] }

// inside is a day of the curve.
func inside(state *uint64, c api.Curve) int {
	switch below(state, 8) {
	case 0:
		return c.Base
	case 1:
		return last(c)
	case 2:
		return c.Days[below(state, len(c.Days))]
	}
	return c.Base + below(state, last(c)-c.Base+1)
}

// someFlows is up to n flows in few currencies, on days of the curve and ahead of it, and now and then behind it.
func someFlows(state *uint64, n int, c api.Curve) []api.Flow {
	curs := 1 + below(state, 3)
	var l []api.Flow
	for range below(state, n+1) {
		day := inside(state, c)
		switch below(state, 8) {
		case 0:
			day = max(0, c.Base-1-below(state, 9))
		case 1:
			if n < 6 {
				day = min(api.LastDay, last(c)+1+below(state, 9))
			}
		}
		l = append(l, f(day, someAmount(state), 1+below(state, curs)))
	}
	return l
}

// mixed is the list in another order.
func mixed(state *uint64, l []api.Flow) []api.Flow {
	m := slices.Clone(l)
	for i := len(m) - 1; i > 0; i-- {
		j := below(state, i+1)
		m[i], m[j] = m[j], m[i]
	}
	return m
}

// someSpec is a schedule that may be, of few periods, and not near the ends of the days.
func someSpec(state *uint64) api.Spec {
	s := api.Spec{N: 1 + below(state, 12), Unit: 1 + below(state, 4), Stub: 1 + below(state, 4), Conv: below(state, 5), Lag: below(state, 4) * below(state, 11), Cal: week()}
	if s.Unit >= api.UMonth {
		s.Roll = below(state, 3)
	}
	step := []int{1, 7, 30, 365}[s.Unit-1] * s.N
	s.Start = 1000 + below(state, 60000)
	s.End = s.Start + 1 + below(state, min(8*step, 20000))
	switch below(state, 5) {
	case 0:
		s.Cal.Weekend = below(state, 127)
	case 1:
		s.Cal = api.Calendar{}
	}
	return s
}

// someLeg is a leg that may be.
func someLeg(state *uint64) api.Leg {
	rates := []float64{0, 0.05, -1, inf, nan}
	return api.Leg{Kind: api.LFixed, Count: 1 + below(state, 6), Cur: 1 + below(state, 8), Notional: math.Ldexp(1+unit(state), below(state, 2046)-1023), Rate: rates[below(state, len(rates))], Spec: someSpec(state)}
}

// curveFor is a curve that may be, most often over all of the schedule's days.
func curveFor(state *uint64, s api.Spec) api.Curve {
	c := api.Curve{Base: s.Start - below(state, 900), Kind: 1 + below(state, 4)}
	end := s.End + 60
	switch below(state, 8) {
	case 0:
		end = s.Start + 1 + below(state, s.End-s.Start+20)
	case 1:
		c.Base = s.Start + 1
	}
	n := 1 + below(state, 9)
	day, fall, wild := c.Base, 1.0, below(state, 4) == 0
	for i := range n {
		day += max(1, (end-c.Base)/n)
		if i == n-1 {
			day = max(day, end)
		}
		fall *= 0.9 + unit(state)/8
		if wild {
			fall = someFactor(state, true)
		}
		c.Days, c.Factors = append(c.Days, day), append(c.Factors, fall)
	}
	return c
}
