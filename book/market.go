package book

import (
	"math"
	"slices"

	"tenor/api"
	"tenor/curve"
)

// market is what a book has of a currency.
type market struct {
	curve api.Curve
	has   bool // whether there is a curve
	rate  float64
}

// Curve sets the currency's curve.
func (b *Book) Curve(cur int, c api.Curve) api.Errno {
	m, e := b.market(cur)
	if e != api.OK {
		return e
	}
	if e := curve.Check(c); e != api.OK {
		return e
	}
	m.curve, m.has = copied(c), true
	return api.OK
}

// Clear takes the currency's curve away.
func (b *Book) Clear(cur int) api.Errno {
	m, e := b.market(cur)
	if e != api.OK {
		return e
	}
	if !m.has {
		return api.ErrCurve
	}
	m.curve, m.has = api.Curve{}, false
	return api.OK
}

// Rate sets the currency's exchange rate.
func (b *Book) Rate(cur int, x float64) api.Errno {
	m, e := b.market(cur)
	if e != api.OK {
		return e
	}
	if !isNumber(x) || x <= 0 {
		return api.ErrValue
	}
	m.rate = x
	return api.OK
}

// Factor is what 1 of the currency on the day n is worth at the base of its curve.
func (b *Book) Factor(cur, n int) (float64, api.Errno) {
	c, e := b.asked(cur)
	if e != api.OK {
		return 0, e
	}
	return curve.Factor(c, n)
}

// Get is the currency's curve, whether it has one, and its exchange rate.
func (b *Book) Get(cur int) (c api.Curve, has bool, x float64, e api.Errno) {
	m, e := b.market(cur)
	if e != api.OK {
		return api.Curve{}, false, 0, e
	}
	own := m.copied()
	return own.curve, own.has, own.rate, api.OK
}

// market is the place of the currency's.
func (b *Book) market(cur int) (*market, api.Errno) {
	if cur < 1 || cur > api.MaxCur {
		return nil, api.ErrCur
	}
	return &b.markets[cur-1], api.OK
}

// asked is the curve of a currency that must have one. It is the book's own, not to be handed out.
func (b *Book) asked(cur int) (api.Curve, api.Errno) {
	m, e := b.market(cur)
	if e != api.OK {
		return api.Curve{}, e
	}
	if !m.has {
		return api.Curve{}, api.ErrCurve
	}
	return m.curve, api.OK
}

// copied is the same market in memory of its own.
func (m market) copied() market {
	m.curve = copied(m.curve)
	return m
}

// copied is the same curve in memory of its own.
func copied(c api.Curve) api.Curve {
	c.Days, c.Factors = slices.Clone(c.Days), slices.Clone(c.Factors)
	return c
}

func isNumber(x float64) bool {
	return !math.IsNaN(x) && !math.IsInf(x, 0)
}
