package life

import (
	"math"

	"tenor/api"
	"tenor/curve"
)

// Roll is the curve seen from the day n: its nodes behind that day, each by what it is worth then.
func Roll(c api.Curve, n int) (api.Curve, api.Errno) {
	last, e := curve.Last(c)
	if e != api.OK {
		return api.Curve{}, e
	}
	if n >= last {
		return api.Curve{}, api.ErrRange
	}
	// A day ahead of the base is refused here.
	then, e := curve.Factor(c, n)
	if e != api.OK {
		return api.Curve{}, e
	}
	rolled := api.Curve{Base: n, Kind: c.Kind}
	for i, day := range c.Days {
		if day <= n {
			continue
		}
		f := c.Factors[i] / then
		if f == 0 || math.IsInf(f, 1) {
			return api.Curve{}, api.ErrValue
		}
		rolled.Days, rolled.Factors = append(rolled.Days, day), append(rolled.Factors, f)
	}
	return rolled, api.OK
}
