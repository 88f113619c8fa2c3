package boot

import (
	"math"

	"tenor/acc"
	"tenor/api"
	"tenor/count"
	"tenor/curve"
	"tenor/sched"
)

// maxMonths is the greatest number of months from one payment of a swap to the next.
const maxMonths = 120

// interest is what a quote pays on a day for the time since the payment ahead of it.
type interest struct {
	day    int
	amount float64
}

// checkQuote tells what is wrong with a quote that is to end behind the day ahead.
func checkQuote(q api.Quote, ahead int) api.Errno {
	switch {
	case !isQuote(q):
		return api.ErrQuote
	case !within(q.Count, api.D360, api.DOpen):
		return api.ErrCount
	case !within(q.End, ahead+1, api.LastDay):
		return api.ErrOrder
	}
	return api.OK
}

// isQuote tells whether the quote's kind, its months and its rate may be.
func isQuote(q api.Quote) bool {
	switch q.Kind {
	case api.QDeposit:
		return q.N == 0 && isNumber(q.Rate)
	case api.QSwap:
		return within(q.N, 1, maxMonths) && isNumber(q.Rate)
	}
	return false
}

// interests is what a quote that may be pays, from the base on.
func interests(base int, k api.Calendar, q api.Quote) ([]interest, api.Errno) {
	days, e := cuts(base, q)
	if e != api.OK {
		return nil, e
	}
	var l []interest
	for i, day := range days[1:] {
		years, e := count.Year(q.Count, k, days[i], day)
		if e != api.OK {
			return nil, e
		}
		l = append(l, interest{day, float64(float64(q.Rate) * years)})
	}
	return l, api.OK
}

// cuts is the days from the base to the quote's end between which it pays interest.
func cuts(base int, q api.Quote) ([]int, api.Errno) {
	if q.Kind == api.QDeposit {
		return []int{base, q.End}, api.OK
	}
	return sched.Dates(api.Spec{Start: base, End: q.End, N: q.N, Unit: api.UMonth, Stub: api.SShortFirst})
}

// settle is the exact worth of the interests that do not hang on the curve's last node, which lies at the quote's end, and the other interests: the last one is always among these.
func settle(c api.Curve, l []interest) (*acc.Acc, []interest, api.Errno) {
	last := lastSettled(c)
	n := 0
	for l[n].day <= last {
		n++
	}
	sum := acc.New()
	if e := add(sum, c, l[:n]); e != api.OK {
		return nil, nil, e
	}
	return sum, l[n:], api.OK
}

// lastSettled is a day up to which no factor hangs on the curve's last node.
func lastSettled(c api.Curve) int {
	n := len(c.Days) - 2
	if c.Kind == api.ICubic {
		// The slope at the node ahead of the last one hangs on the last one too.
		n--
	}
	if n < 0 {
		return c.Base
	}
	return c.Days[n]
}

// worth is what a quote of that kind is worth on the curve; its interests are those that the sum has already, and those of l, the last one among these.
func worth(c api.Curve, kind int, sum *acc.Acc, l []interest) (float64, api.Errno) {
	last := l[len(l)-1]
	f, e := curve.Factor(c, last.day)
	if e != api.OK {
		return 0, e
	}
	if kind == api.QDeposit {
		// The product is rounded ahead of the difference.
		return float64(f*(1+last.amount)) - 1, api.OK
	}
	if e := add(sum, c, l); e != api.OK {
		return 0, e
	}
	sum.Add(f)
	sum.Add(-1)
	return sum.Value(), api.OK
}

// add adds what the interests are worth on the curve, exactly.
func add(sum *acc.Acc, c api.Curve, l []interest) api.Errno {
	for _, i := range l {
		f, e := curve.Factor(c, i.day)
		if e != api.OK {
			return e
		}
		sum.Prod(i.amount, f)
	}
	return api.OK
}

func isNumber(x float32) bool {
	return !math.IsNaN(float64(x)) && !math.IsInf(float64(x), 0)
}

func within(n, least, greatest int) bool {
	return least <= n && n <= greatest
}
