package risk

import (
	"math"
	"slices"

	"tenor/api"
	"tenor/count"
	"tenor/curve"
	"tenor/fn"
)

// Bump is the curve with the continuous rate of its node i, counted from 0, raised by h.
func Bump(c api.Curve, i int, h float64) (api.Curve, api.Errno) {
	if e := curve.Check(c); e != api.OK {
		return api.Curve{}, e
	}
	if i < 0 || i >= len(c.Days) {
		return api.Curve{}, api.ErrArg
	}
	f, e := bumpedFactor(c, i, h)
	if e != api.OK {
		return api.Curve{}, e
	}
	b := copied(c)
	b.Factors[i] = f
	return b, api.OK
}

// Parallel is the curve with the continuous rates of all of its nodes raised by h.
func Parallel(c api.Curve, h float64) (api.Curve, api.Errno) {
	if e := curve.Check(c); e != api.OK {
		return api.Curve{}, e
	}
	b := copied(c)
	for i := range len(c.Days) {
		f, e := bumpedFactor(c, i, h)
		if e != api.OK {
			return api.Curve{}, e
		}
		b.Factors[i] = f
	}
	return b, api.OK
}

// bumpedFactor is the factor of the node i of a curve that may be, bumped by h.
func bumpedFactor(c api.Curve, i int, h float64) (float64, api.Errno) {
	if !isNumber(h) {
		return 0, api.ErrValue
	}
	// Both are days, so they have a year.
	years, _ := count.Year(api.D365, api.Calendar{}, c.Base, c.Days[i])
	// The product is rounded by itself: Exp begins by adding to it.
	f := c.Factors[i] * fn.Exp(-float64(h*years))
	if f <= 0 {
		return 0, api.ErrValue
	}
	return number(f)
}

// copied is the same curve in memory of its own.
func copied(c api.Curve) api.Curve {
	c.Days, c.Factors = slices.Clone(c.Days), slices.Clone(c.Factors)
	return c
}

// number is x, if it is a number.
func number(x float64) (float64, api.Errno) {
	if !isNumber(x) {
		return 0, api.ErrValue
	}
	return x, api.OK
}

func isNumber(x float64) bool {
	return !math.IsNaN(x) && !math.IsInf(x, 0)
}
