package flow

import (
	"tenor/api"
	"tenor/count"
	"tenor/curve"
	"tenor/sched"
)

// Fixed is what a leg of a fixed rate pays, a flow a period.
func Fixed(g api.Leg) ([]api.Flow, api.Errno) {
	l, e := periods(g, api.LFixed)
	if e != api.OK {
		return nil, e
	}
	return payments(g, l, func(api.Period) (float64, api.Errno) { return g.Rate, api.OK })
}

// Float is what a leg pays, a flow a period, whose rate is the curve's forward rate of the period and its own on top.
func Float(g api.Leg, c api.Curve) ([]api.Flow, api.Errno) {
	l, e := periods(g, api.LFloat)
	if e != api.OK {
		return nil, e
	}
	if e := curve.Check(c); e != api.OK {
		return nil, e
	}
	return payments(g, l, func(p api.Period) (float64, api.Errno) {
		f, e := curve.Forward(c, g.Count, g.Spec.Cal, p.Start, p.End)
		return f + g.Rate, e
	})
}

// Bond is what a leg of a fixed rate pays, and its notional on the last day.
func Bond(g api.Leg) ([]api.Flow, api.Errno) {
	l, e := Fixed(g)
	if e != api.OK {
		return nil, e
	}
	last := l[len(l)-1].Day
	return append(l, api.Flow{Day: last, Amount: g.Notional, Cur: g.Cur}), api.OK
}

// periods is those of a leg that must be of that kind.
func periods(g api.Leg, kind int) ([]api.Period, api.Errno) {
	switch {
	case g.Kind != kind:
		return nil, api.ErrKind
	case !isCurrency(g.Cur):
		return nil, api.ErrCur
	case !isNumber(g.Notional) || !isNumber(g.Rate):
		return nil, api.ErrValue
	}
	return sched.Periods(g.Spec)
}

// payments is the interest of each period, at the rate that is told of it.
func payments(g api.Leg, l []api.Period, rate func(api.Period) (float64, api.Errno)) ([]api.Flow, api.Errno) {
	var paid []api.Flow
	for _, p := range l {
		r, e := rate(p)
		if e != api.OK {
			return nil, e
		}
		years, e := count.Year(g.Count, g.Spec.Cal, p.Start, p.End)
		if e != api.OK {
			return nil, e
		}
		// Each product is rounded by itself.
		amount := float64(float64(g.Notional*r) * years)
		if !isNumber(amount) {
			return nil, api.ErrValue
		}
		paid = append(paid, api.Flow{Day: p.Pay, Amount: amount, Cur: g.Cur})
	}
	return paid, api.OK
}
