package bond

import (
	"math"

	"tenor/acc"
	"tenor/api"
	"tenor/count"
	"tenor/flow"
	"tenor/rate"
	"tenor/solve"
)

// Worth is what the flows in the currency cur, behind the day base, are worth on that day at the yield y.
func Worth(l []api.Flow, cur, kind, count, base int, y float64) (float64, api.Errno) {
	if e := check(l, cur, kind, count, base); e != api.OK {
		return 0, e
	}
	// The factors would not ask for y where there is no flow.
	if !isNumber(y) {
		return 0, api.ErrValue
	}
	sum := acc.New()
	for _, f := range l {
		if f.Cur != cur || f.Day <= base {
			continue
		}
		factor, e := factorOf(kind, count, base, f.Day, y)
		if e != api.OK {
			return 0, e
		}
		sum.Prod(f.Amount, factor)
	}
	return number(sum.Value())
}

// Yield is the yield at which those flows are worth the price.
func Yield(l []api.Flow, cur, kind, count, base int, price float64) (float64, api.Errno) {
	if e := check(l, cur, kind, count, base); e != api.OK {
		return 0, e
	}
	if !isNumber(price) {
		return 0, api.ErrValue
	}
	const lowest, highest = -0.5, 4
	y, _, e := solve.Root(func(y float64) float64 {
		worth, e := Worth(l, cur, kind, count, base, y)
		if e != api.OK {
			return math.NaN()
		}
		return worth - price
	}, lowest, highest)
	return y, e
}

// Duration is how fast the worth falls where the yield rises, by the difference of h up and down, as a part of the worth.
func Duration(l []api.Flow, cur, kind, count, base int, y, h float64) (float64, api.Errno) {
	worth, e := Worth(l, cur, kind, count, base, y)
	if e != api.OK {
		return 0, e
	}
	if !isNumber(h) || h <= 0 {
		return 0, api.ErrValue
	}
	low, e := Worth(l, cur, kind, count, base, y-h)
	if e != api.OK {
		return 0, e
	}
	high, e := Worth(l, cur, kind, count, base, y+h)
	if e != api.OK {
		return 0, e
	}
	if worth == 0 {
		return 0, api.ErrValue
	}
	return number(((low - high) / (2 * h)) / worth)
}

// check is what is wrong with what Worth is given ahead of the yield. A count of open days is none here, for there is no calendar.
func check(l []api.Flow, cur, kind, days, base int) api.Errno {
	if e, _ := flow.Check(l); e != api.OK {
		return e
	}
	switch {
	case !within(cur, 1, api.MaxCur):
		return api.ErrCur
	case !within(kind, api.KSimple, api.KCont):
		return api.ErrKind
	case !within(days, api.D360, api.DEuro):
		return api.ErrCount
	case !isDay(base):
		return api.ErrRange
	}
	return api.OK
}

// factorOf is what 1 on a day is worth at the base.
func factorOf(kind, days, base, day int, y float64) (float64, api.Errno) {
	years, e := count.Year(days, api.Calendar{}, base, day)
	if e != api.OK {
		return 0, e
	}
	return rate.Factor(kind, y, years)
}
