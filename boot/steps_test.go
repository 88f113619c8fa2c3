package boot_test

import (
	"math"
	"math/big"
	"slices"
	"time"

	"tenor/api"
	"tenor/boot"
	"tenor/count"
	"tenor/curve"
)

var (
	inf   = float32(math.Inf(1))
	nan   = float32(math.NaN())
	first = time.Date(1900, 1, 1, 0, 0, 0, 0, time.UTC)
)

const greatest32 = math.MaxFloat32

// scatter is splitmix64: the same numbers in every run.
func scatter(state *uint64) uint64 {
	*state += 0x9e3779b97f4a7c15
	z := *state
	z = (z ^ z>>30) * 0xbf58476d1ce4e5b9
	z = (z ^ z>>27) * 0x94d049bb133111eb
	return z ^ z>>31
}

// below is a whole number from 0 to below n.
func below(state *uint64, n int) int {
	return int(scatter(state) % uint64(n))
}

// unit is a number from 0 to below 1.
func unit(state *uint64) float64 {
	return float64(scatter(state)>>11) * 0x1p-53
}

// kinds is all kinds of curves, and counts all day counts.
func kinds() []int {
	return []int{api.IFlat, api.ILinear, api.ICubic, api.ILog}
}

func counts() []int {
	return []int{api.D360, api.D365, api.DAct, api.DBond, api.DEuro, api.DOpen}
}

// week is a calendar of weekends and a holiday; closed, odd and tooMany are calendars that may not be.
func week() api.Calendar {
	return api.Calendar{Weekend: 96, Rules: []api.Rule{{Kind: api.HFix, Month: 5, Day: 1, From: 1900, To: 2199}}}
}

func closed() api.Calendar { return api.Calendar{Weekend: 127} }

func odd() api.Calendar {
	return api.Calendar{Weekend: 96, Rules: []api.Rule{{Kind: api.HDay, Day: 3}, {Kind: 9}}}
}

func tooMany() api.Calendar { return api.Calendar{Rules: make([]api.Rule, api.MaxRules+1)} }

// deposit and swap are quotes.
func deposit(end, count int, rate float32) api.Quote {
	return api.Quote{Kind: api.QDeposit, End: end, Count: count, Rate: rate}
}

func swap(end, count, months int, rate float32) api.Quote {
	return api.Quote{Kind: api.QSwap, End: end, Count: count, N: months, Rate: rate}
}

// value is an answer of Worth.
type value struct {
	x float64
	e api.Errno
}

func told(x float64, e api.Errno) value { return value{x, e} }

func (v value) is(w value) bool {
	return v.e == w.e && math.Float64bits(v.x) == math.Float64bits(w.x)
}

// built is an answer of Build.
type built struct {
	c  api.Curve
	e  api.Errno
	at int
}

func made(c api.Curve, e api.Errno, at int) built { return built{c, e, at} }

func wrong(e api.Errno, at int) built { return built{e: e, at: at} }

func (b built) is(w built) bool {
	return b.e == w.e && b.at == w.at && sameCurve(b.c, w.c)
}

func sameCurve(a, b api.Curve) bool {
	same := func(x, y float64) bool { return math.Float64bits(x) == math.Float64bits(y) }
	return a.Base == b.Base && a.Kind == b.Kind && slices.Equal(a.Days, b.Days) && slices.EqualFunc(a.Factors, b.Factors, same)
}

// dayBack is the day that lies so many months ahead of the day n: the same day of its month, or the month's last.
func dayBack(n, months int) (int, bool) {
	y, m, d := first.AddDate(0, 0, n).Date()
	month := time.Date(y, m-time.Month(months), 1, 0, 0, 0, 0, time.UTC)
	last := month.AddDate(0, 1, -1).Day()
	day := month.AddDate(0, 0, min(d, last)-1)
	return int((day.Unix() - first.Unix()) / 86400), day.Year() >= 1900
}

// cuts is the days between which a swap pays.
func cuts(base int, q api.Quote) []int {
	l := []int{q.End}
	for k := 1; ; k++ {
		n, ok := dayBack(q.End, k*q.N)
		if !ok || n <= base {
			l = append(l, base)
			slices.Reverse(l)
			return l
		}
		l = append(l, n)
	}
}

// rational is the exact value of a number.
func rational(x float64) *big.Rat { return new(big.Rat).SetFloat64(x) }

// stepWorth is 13.3 of a curve, a calendar and a quote that may be, its sums in rationals.
func stepWorth(c api.Curve, k api.Calendar, q api.Quote) value {
	if q.Kind == api.QDeposit {
		f, e := curve.Factor(c, q.End)
		if e != api.OK {
			return value{0, e}
		}
		y, _ := count.Year(q.Count, k, c.Base, q.End)
		interest := float64(float64(q.Rate) * y)
		back := float64(1 + interest)
		worth := float64(f * back)
		return value{worth - 1, api.OK}
	}
	days := cuts(c.Base, q)
	if len(days)-1 > api.MaxPeriods {
		return value{0, api.ErrMany}
	}
	sum := big.NewRat(-1, 1)
	for i := 1; i < len(days); i++ {
		y, _ := count.Year(q.Count, k, days[i-1], days[i])
		f, e := curve.Factor(c, days[i])
		if e != api.OK {
			return value{0, e}
		}
		sum.Add(sum, new(big.Rat).Mul(rational(float64(float64(q.Rate)*y)), rational(f)))
	}
	f, e := curve.Factor(c, q.End)
	if e != api.OK {
		return value{0, e}
	}
	x, _ := sum.Add(sum, rational(f)).Float64()
	return value{x, api.OK}
}

// stepBuild is 13.4 of what may be: each trial is Worth on a curve of its own, the halving by bits, for all trials lie above 0.
func stepBuild(base, kind int, k api.Calendar, l []api.Quote) built {
	c := api.Curve{Base: base, Kind: kind}
	for i, q := range l {
		f, e := stepRoot(func(trial float64) (float64, api.Errno) {
			return boot.Worth(with(c, q.End, trial), k, q)
		})
		if e != api.OK {
			return wrong(e, i)
		}
		c = with(c, q.End, f)
	}
	return built{c: c}
}

// with is a new curve of one node more.
func with(c api.Curve, day int, f float64) api.Curve {
	c.Days = append(slices.Clone(c.Days), day)
	c.Factors = append(slices.Clone(c.Factors), f)
	return c
}

// stepRoot halves between 2^-30 and 2^10.
func stepRoot(f func(float64) (float64, api.Errno)) (float64, api.Errno) {
	a, e := f(0x1p-30)
	if e != api.OK {
		return 0, e
	}
	b, e := f(0x1p10)
	switch {
	case e != api.OK:
		return 0, e
	case a == 0:
		return 0x1p-30, api.OK
	case b == 0:
		return 0x1p10, api.OK
	case a > 0 == (b > 0):
		return 0, api.ErrBracket
	}
	lo, hi := math.Float64bits(0x1p-30), math.Float64bits(0x1p10)
	for hi-lo > 1 {
		m := (lo + hi) / 2
		v, e := f(math.Float64frombits(m))
		switch {
		case e != api.OK:
			return 0, e
		case v == 0:
			return math.Float64frombits(m), api.OK
		case v > 0 == (a > 0):
			lo = m
		default:
			hi = m
		}
	}
	return math.Float64frombits(lo), api.OK
}

// someRate gives rates: everyday ones, nought, great ones, small ones, those below 0.
func someRate(state *uint64) float32 {
	switch below(state, 12) {
	case 0:
		return 0
	case 1:
		return float32(unit(state)) - 0.5
	case 2:
		return float32(math.Ldexp(unit(state), below(state, 40)-30))
	case 3:
		return -float32(unit(state)) / 64
	}
	return 0.01 + float32(unit(state))/16
}

// someQuote is a quote that may be with that end; a swap's steps are long enough for some forty of them, but now and then.
func someQuote(state *uint64, base, end int) api.Quote {
	q := deposit(end, 1+below(state, 6), someRate(state))
	if below(state, 3) > 0 {
		least := min(1+(end-base)/1200, 120)
		q.Kind, q.N = api.QSwap, least+below(state, 121-least)
		if below(state, 2) == 0 {
			q.N = []int{3, 6, 12}[below(state, 3)]
		}
	}
	return q
}

// someQuotes is a base and up to eight quotes that may be.
func someQuotes(state *uint64) (int, []api.Quote) {
	n := 1 + below(state, 8)
	gap := []int{5, 40, 400, 2000}[below(state, 4)]
	base := below(state, api.LastDay+1-n*gap)
	end := base
	var l []api.Quote
	for range n {
		end += 1 + below(state, gap)
		l = append(l, someQuote(state, base, end))
	}
	return base, l
}

// someCurve is a curve that may be with factors of all sizes, and those of a market.
func someCurve(state *uint64, kind int) api.Curve {
	n := 1 + below(state, 6)
	gap := []int{5, 100, 1500}[below(state, 3)]
	c := api.Curve{Base: below(state, api.LastDay+1-n*gap), Kind: kind}
	day, wide := c.Base, below(state, 4) == 0
	for range n {
		day += 1 + below(state, gap)
		f := 0.3 + unit(state)
		if wide {
			f = math.Ldexp(f+0.7, below(state, 2000)-1000)
		}
		c.Days, c.Factors = append(c.Days, day), append(c.Factors, f)
	}
	return c
}
