package price

import (
	"tenor/acc"
	"tenor/api"
	"tenor/count"
	"tenor/curve"
	"tenor/sched"
)

// Par is the fixed rate at which the leg's payments are worth what its notional is, paid at the start and back at the end.
func Par(g api.Leg, c api.Curve) (float64, api.Errno) {
	l, e := periods(g)
	if e != api.OK {
		return 0, e
	}
	if e := curve.Check(c); e != api.OK {
		return 0, e
	}
	sum, last, e := annuity(g, c, l)
	if e != api.OK {
		return 0, e
	}
	first, e := curve.Factor(c, l[0].Start)
	if e != api.OK {
		return 0, e
	}
	if sum <= 0 {
		return 0, api.ErrValue
	}
	return number((first - last) / sum)
}

// periods is those of a leg whose rate is sought.
func periods(g api.Leg) ([]api.Period, api.Errno) {
	switch {
	case g.Kind != api.LFixed:
		return nil, api.ErrKind
	case !isCurrency(g.Cur):
		return nil, api.ErrCur
	case !isNumber(g.Notional) || g.Notional <= 0:
		return nil, api.ErrValue
	}
	return sched.Periods(g.Spec)
}

// annuity is what a rate of 1, paid period by period on a notional of 1, is worth, rounded once, and the factor of the last payment.
func annuity(g api.Leg, c api.Curve, l []api.Period) (float64, float64, api.Errno) {
	sum, last := acc.New(), 0.0
	for _, p := range l {
		years, e := count.Year(g.Count, g.Spec.Cal, p.Start, p.End)
		if e != api.OK {
			return 0, 0, e
		}
		last, e = curve.Factor(c, p.Pay)
		if e != api.OK {
			return 0, 0, e
		}
		sum.Prod(years, last)
	}
	return sum.Value(), last, api.OK
}
