package curve_test

import (
	"math"
	"slices"

	"tenor/api"
	"tenor/count"
	"tenor/ieee"
	"tenor/interp"
	"tenor/rate"
)

var (
	inf    = math.Inf(1)
	nan    = math.NaN()
	nought = math.Copysign(0, -1)
)

const (
	least    = 0x1p-1074
	greatest = math.MaxFloat64
)

// scatter is splitmix64: the same numbers in every run.
func scatter(state *uint64) uint64 {
	*state += 0x9e3779b97f4a7c15
	z := *state
	z = (z ^ z>>30) * 0xbf58476d1ce4e5b9
	z = (z ^ z>>27) * 0x94d049bb133111eb
	return z ^ z>>31
}

// below is a whole number from 0 to below n.
func below(state *uint64, n int) int {
	return int(scatter(state) % uint64(n))
}

// unit is a number from 0 to below 1.
func unit(state *uint64) float64 {
	return float64(scatter(state)>>11) * 0x1p-53
}

// kinds is all kinds of curves.
func kinds() []int {
	return []int{api.IFlat, api.ILinear, api.ICubic, api.ILog}
}

// noKinds is ints that are no kinds of curves.
func noKinds() []int {
	return []int{math.MinInt, -1, 0, 5, 9, 256 + api.IFlat, 1<<32 + api.ILog, math.MaxInt}
}

// counts is all day counts, and yields all kinds of rates.
func counts() []int {
	return []int{api.D360, api.D365, api.DAct, api.DBond, api.DEuro, api.DOpen}
}

func yields() []int {
	return []int{api.KSimple, api.KAnnual, api.KSemi, api.KQuarter, api.KMonth, api.KCont}
}

// week is a calendar of weekends, and tooMany and closed are calendars that may not be, by two errors.
func week() api.Calendar { return api.Calendar{Weekend: 96} }

func tooMany() api.Calendar {
	return api.Calendar{Weekend: 96, Rules: make([]api.Rule, api.MaxRules+1)}
}

func closed() api.Calendar { return api.Calendar{Weekend: 127} }

// someFactor gives factors of one sort: everyday ones, few that come again, of all sizes, next to 1, those of binary32's ends.
func someFactor(state *uint64, sort int) float64 {
	switch sort {
	case 0:
		return 0.3 + unit(state)
	case 1:
		return float64(1+below(state, 6)) / 4
	case 2:
		return math.Ldexp(1+unit(state), below(state, 2046)-1023)
	case 3:
		return 1 + float64(below(state, 9)-4)*0x1p-52
	}
	return math.Ldexp(1+unit(state), []int{-150, -149, -140, -127, -126, 126, 127}[below(state, 7)])
}

const sorts = 5

// someCurve is a curve of that kind that may be, now and then with factors that never rise.
func someCurve(state *uint64, kind int) api.Curve {
	n := 1 + below(state, 9)
	gap := []int{2, 12, 400, api.LastDay / (n + 1)}[below(state, 4)]
	c := api.Curve{Base: below(state, api.LastDay+1-n*gap), Kind: kind}
	day, sort := c.Base, below(state, sorts)
	for range n {
		day += 1 + below(state, gap)
		c.Days, c.Factors = append(c.Days, day), append(c.Factors, someFactor(state, sort))
	}
	if scatter(state)%2 == 0 {
		fall(&c)
	}
	return c
}

// fall makes the curve one whose factors never rise, from 1 on.
func fall(c *api.Curve) {
	for i, f := range c.Factors {
		if f > 1 {
			c.Factors[i] = max(1/f, least)
		}
	}
	slices.Sort(c.Factors)
	slices.Reverse(c.Factors)
}

// someDay is a day of the curve, now and then one beyond it.
func someDay(state *uint64, c api.Curve) int {
	last := c.Days[len(c.Days)-1]
	switch below(state, 12) {
	case 0:
		return c.Base - 1 - below(state, 3)
	case 1:
		return last + 1 + below(state, 3)
	case 2:
		return c.Days[below(state, len(c.Days))]
	case 3:
		return c.Base
	}
	return c.Base + below(state, last-c.Base+1)
}

// answer is what a call tells.
type answer struct {
	x float64
	e api.Errno
}

func told(x float64, e api.Errno) answer { return answer{x, e} }

func (a answer) is(b answer) bool { return ieee.Same(a.x, b.x) && a.e == b.e }

// wrong is a refusal by that error.
func wrong(e api.Errno) answer { return answer{0, e} }

// sameCurve tells whether both curves have the same fields.
func sameCurve(a, b api.Curve) bool {
	return a.Base == b.Base && a.Kind == b.Kind && slices.Equal(a.Days, b.Days) && slices.EqualFunc(a.Factors, b.Factors, ieee.Same)
}

// copied is the curve in memory of its own.
func copied(c api.Curve) api.Curve {
	c.Days, c.Factors = slices.Clone(c.Days), slices.Clone(c.Factors)
	return c
}

// stepFactor is 11.2, word by word, of a curve that may be.
func stepFactor(c api.Curve, n int) answer {
	if n < c.Base || n > c.Days[len(c.Days)-1] {
		return wrong(api.ErrRange)
	}
	t := api.Table{Kind: c.Kind, X: []int{c.Base}, Y: []float64{1}}
	for i := range c.Days {
		t.X, t.Y = append(t.X, c.Days[i]), append(t.Y, c.Factors[i])
	}
	return told(interp.At(t, n))
}

// stepForward is 11.3, word by word, of a curve that may be.
func stepForward(c api.Curve, kind int, k api.Calendar, a, b int) answer {
	near, far, year := stepFactor(c, a), stepFactor(c, b), told(count.Year(kind, k, a, b))
	for _, x := range []answer{near, far, year} {
		if x.e != api.OK {
			return wrong(x.e)
		}
	}
	return told(rate.Forward(near.x, far.x, year.x))
}

// stepZero is 11.4, word by word, of a curve that may be.
func stepZero(c api.Curve, rates, kind int, k api.Calendar, n int) answer {
	f, year := stepFactor(c, n), told(count.Year(kind, k, c.Base, n))
	for _, x := range []answer{f, year} {
		if x.e != api.OK {
			return wrong(x.e)
		}
	}
	return told(rate.Yield(rates, f.x, year.x))
}

// single is f rounded to binary32 by whole numbers of its last bit, in no way of the language's.
func single(f float64) float64 {
	_, power := math.Frexp(f)
	unit := max(power-24, -149)
	f = math.Ldexp(math.RoundToEven(math.Ldexp(f, -unit)), unit)
	if f >= 0x1p128 {
		return inf
	}
	return f
}
