package grid

import (
	"tenor/api"
	"tenor/count"
	"tenor/curve"
	"tenor/risk"
)

// shifter is what one kind of shift makes of a curve that may be.
type shifter func(c api.Curve, s api.Shift) (api.Curve, api.Errno)

// shifters is all kinds of shifts.
func shifters() [api.GTilt + 1]shifter {
	return [...]shifter{api.GAll: all, api.GNode: node, api.GTilt: tilt}
}

// Apply is the curve, shifted.
func Apply(c api.Curve, s api.Shift) (api.Curve, api.Errno) {
	if e := curve.Check(c); e != api.OK {
		return api.Curve{}, e
	}
	if s.Kind < api.GAll || s.Kind > api.GTilt {
		return api.Curve{}, api.ErrKind
	}
	return shifters()[s.Kind](c, s)
}

// all raises the continuous rates of all nodes.
func all(c api.Curve, s api.Shift) (api.Curve, api.Errno) {
	if s.Node != 0 {
		return api.Curve{}, api.ErrArg
	}
	return risk.Parallel(c, s.H)
}

// node raises the rate of one node.
func node(c api.Curve, s api.Shift) (api.Curve, api.Errno) {
	return risk.Bump(c, s.Node, s.H)
}

// tilt raises the rate of each node the more the farther behind the base it lies.
func tilt(c api.Curve, s api.Shift) (api.Curve, api.Errno) {
	if s.Node != 0 {
		return api.Curve{}, api.ErrArg
	}
	tilted := c
	for i, day := range c.Days {
		// Both are days, so they have a year.
		years, _ := count.Year(api.D365, api.Calendar{}, c.Base, day)
		// Bump refuses what is no number: H itself, for years are above 0 here, and a product that is too great, by which no factor could be bumped either.
		b, e := risk.Bump(tilted, i, s.H*years)
		if e != api.OK {
			return api.Curve{}, e
		}
		tilted = b
	}
	return tilted, api.OK
}
