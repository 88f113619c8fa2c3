package grid_test

import (
	"math"
	"slices"
	"testing"

	"tenor/api"
	"tenor/fn"
	"tenor/grid"
	"tenor/risk"
)

// checkApply holds one answer of Apply.
func checkApply(t *testing.T, c api.Curve, s api.Shift, want bent) {
	t.Helper()
	if got := told(grid.Apply(c, s)); !got.is(want) {
		t.Errorf("Apply(%v, %v) is %v, not %v", c, s, got, want)
	}
}

// given is a curve of two nodes, a year and two behind the base.
func given() api.Curve {
	return api.Curve{Base: 0, Kind: api.ILinear, Days: []int{365, 730}, Factors: []float64{0.5, 0.25}}
}

// with is the curve with these factors.
func with(c api.Curve, factors ...float64) api.Curve {
	c.Factors = factors
	return c
}

// years is a curve of one node that lies so many years, of 365 days, behind the base.
func years(n int, factor float64) api.Curve {
	return api.Curve{Base: 100, Kind: api.IFlat, Days: []int{100 + 365*n}, Factors: []float64{factor}}
}

// market is a curve of that kind from the day 45290 on.
func market(kind int) api.Curve {
	const b = 45290
	return api.Curve{Base: b, Kind: kind, Days: []int{b + 91, b + 400, b + 550, b + 900, b + 1300, b + 3000}, Factors: []float64{0.9871, 0.9502, 0.9411, 0.8850, 0.8351, 0.7003}}
}

// full is a curve of as many nodes as may be.
func full(kind int) api.Curve {
	c := api.Curve{Base: 17, Kind: kind}
	for i := range api.MaxNodes - 1 {
		c.Days, c.Factors = append(c.Days, 20+7*i), append(c.Factors, 1/(1+float64(i)/90))
	}
	return c
}

// The chapter's example of Apply.
func TestApplyExample(t *testing.T) {
	for _, c := range []api.Curve{given(), market(api.ICubic), years(1, 2)} {
		for _, i := range []int{math.MinInt, -1, len(c.Days), len(c.Days) + 1, 1 << 32, math.MaxInt} {
			checkApply(t, c, node(i, 0.01), refused(api.ErrArg))
		}
	}
}

// Promise 25.1: tilts: bits, reckoned elsewhere.
func TestTiltKnown(t *testing.T) {
	for _, x := range []struct {
		h    float64
		want []float64
	}{
		{0.0001, []float64{0x1.f9645df361e96p-1, 0x1.e671a865051b2p-1, 0x1.e1bbdaaadf32cp-1, 0x1.c4d837045c9ecp-1, 0x1.ab0776d0067c0p-1, 0x1.6423ba18aa818p-1}},
		{-0.01, []float64{0x1.f9b59df08f79bp-1, 0x1.ec61620821efep-1, 0x1.ece8b848a9d6dp-1, 0x1.e1862ed8d101fp-1, 0x1.e5667974cb9f7p-1, 0x1.604c826a7cb32p+0}},
		{0.25, []float64{0x1.f19a3168fe6f0p-1, 0x1.68526a1de4f9dp-1, 0x1.1122d4662d99fp-1, 0x1.8c6ab81e06687p-3, 0x1.1ef8b30454cf4p-5, 0x1.165a3f78c2107p-25}},
		{-3.5, []float64{0x1.3a1c6c9920cf7p+0, 0x1.fca834ba92a20p+5, 0x1.4c991743e20d8p+11, 0x1.701c63411b467p+30, 0x1.bbc1906c2c48ep+63, 0x1.83ff59ccf1638p+340}},
		{1e-20, []float64{0x1.f9652bd3c3611p-1, 0x1.e6809d495182bp-1, 0x1.e1d7dbf487fccp-1, 0x1.c51eb851eb852p-1, 0x1.ab923a29c779ap-1, 0x1.668db8bac710dp-1}},
		{10, []float64{0x1.0f71ff7fea74cp-1, 0x1.83fe13a0a352ep-18, 0x1.1cf807d58a013p-33, 0x1.140b6637774d9p-88, 0x1.a8881f6ecf3d6p-184, 0x1.d5834c52c0a6ep-976}},
		{-10, []float64{0x1.d67d4d0dd1878p+0, 0x1.3103064c2d1b5p+17, 0x1.975d859a611f0p+32, 0x1.73e47583dd867p+87, 0x1.aea1e70b7bcdbp+182, 0x1.11d1315da092fp+974}},
	} {
		for _, kind := range kinds() {
			c := market(kind)
			checkApply(t, c, tilt(x.h), told(with(c, x.want...), api.OK))
		}
	}
}

// Promise 25.1: all nodes, or one, are bumped as risk does it.
func TestApplyRisk(t *testing.T) {
	state := uint64(251)
	seen := map[api.Errno]int{}
	for i := range 3000 {
		c := someCurve(&state, 1+i%4)
		h := someBump(&state, c)
		want := told(risk.Parallel(c, h))
		checkApply(t, c, all(h), want)
		seen[want.e]++
		n := below(&state, len(c.Days)+2) - 1
		want = told(risk.Bump(c, n, h))
		checkApply(t, c, node(n, h), want)
		seen[want.e]++
	}
	if seen[api.OK] < 2000 || seen[api.ErrValue] < 300 || seen[api.ErrArg] < 500 {
		t.Errorf("only %v", seen)
	}
}

// Promise 25.1: each step, of all sorts of curves and shifts.
func TestApplySteps(t *testing.T) {
	state := uint64(2510)
	seen := map[[2]int]int{}
	for i := range 12000 {
		c := someCurve(&state, 1+i%4)
		s := someShift(&state, c)
		want := stepApply(c, s)
		checkApply(t, c, s, want)
		seen[[2]int{s.Kind, int(want.e)}]++
	}
	for kind := api.GAll; kind <= api.GTilt; kind++ {
		for e, n := range map[api.Errno]int{api.OK: 1500, api.ErrValue: 300, api.ErrArg: 50} {
			if seen[[2]int{kind, int(e)}] < n {
				t.Errorf("of the kind %d only %v", kind, seen)
			}
		}
	}
	for _, kind := range kinds() {
		c := full(kind)
		for _, s := range []api.Shift{all(-0.03), all(0.5), node(0, 1), node(254, 0.02), tilt(0.03), tilt(-0.4)} {
			checkApply(t, c, s, stepApply(c, s))
		}
		checkApply(t, c, node(255, 0.02), refused(api.ErrArg))
	}
}

// Promise 25.1: by hand: tilts at the ends of what a factor can be.
func TestTiltEdges(t *testing.T) {
	no := refused(api.ErrValue)
	ok := func(c api.Curve, x float64) bent { return told(with(c, x), api.OK) }
	for _, x := range []struct {
		c    api.Curve
		h    float64
		want bent
	}{
		// After a year a tilt is a bump, after two it is four times one.
		{years(1, 0.5), 0.25, ok(years(1, 0), 0.5*fn.Exp(-0.25))},
		{years(2, 0.5), 0.25, ok(years(2, 0), 0.5*fn.Exp(-1))},
		{years(10, 0.5), -0.01, ok(years(10, 0), 0.5*fn.Exp(0.1*10))},
		// The exponential overflows from 710 on, whatever the factor is; where it does not, the product may.
		{years(2, 1e-300), -177.5, no},
		{years(2, 1), -177.375, ok(years(2, 0), fn.Exp(709.5))},
		{years(2, 2), -177.375, no},
		{years(2, least), -177.375, ok(years(2, 0), least*fn.Exp(709.5))},
		// It is 0 from -746 down; where it is not, the product may be.
		{years(2, greatest), 186.5, no},
		{years(2, greatest), 186.25, ok(years(2, 0), greatest*fn.Exp(-745))},
		{years(2, 1), 186.25, ok(years(2, 0), least)},
		{years(2, 0.5), 186.25, no},
		// What H and the time come to may be too great for a number, at once or when it is multiplied again.
		{years(2, 1e-300), -greatest, no},
		{years(2, greatest), greatest, no},
		{years(10, 1), 0x1p1022, no},
		{years(10, 1), -0x1p1022, no},
		{years(10, 1), 0x1p1019, no},
		{years(10, 1), -0x1p1019, no},
		// It may be 0, too, or as good as that.
		{years(2, 0.75), least, ok(years(2, 0), 0.75)},
		{years(2, greatest), -least, ok(years(2, 0), greatest)},
		{years(2, least), 1e-300, ok(years(2, 0), least)},
	} {
		checkApply(t, x.c, tilt(x.h), x.want)
	}
	// The time is counted from the base, and rounded once; the tilt times the time is rounded ahead of its second time.
	c := api.Curve{Base: 1000, Kind: api.IFlat, Days: []int{1100}, Factors: []float64{0.75}}
	time := 100.0 / 365
	once := 0.3 * time
	checkApply(t, c, tilt(0.3), told(with(c, 0.75*fn.Exp(-(once*time))), api.OK))
	// One factor that may not be is enough.
	c = api.Curve{Base: 0, Kind: api.ILog, Days: []int{365, 730, 1095}, Factors: []float64{1, 1, 1}}
	checkApply(t, c, tilt(-70), told(with(c, fn.Exp(70), fn.Exp(280), fn.Exp(630)), api.OK))
	checkApply(t, c, tilt(-80), no)
	checkApply(t, c, tilt(80), told(with(c, fn.Exp(-80), fn.Exp(-320), fn.Exp(-720)), api.OK))
	checkApply(t, c, tilt(90), no)
	checkApply(t, with(c, greatest, 1, 1), tilt(-1), no)
	checkApply(t, with(c, least, 1, 1), tilt(1), no)
}

// badCurves is curves that may not be, each with its error.
func badCurves() map[string]bent {
	change := func(e api.Errno, change func(*api.Curve)) bent {
		c := api.Curve{Base: 40, Kind: api.ILinear, Days: []int{100, 60000}, Factors: []float64{0.5, 0.25}}
		change(&c)
		return bent{c, e}
	}
	return map[string]bent{
		"nothing": {api.Curve{}, api.ErrKind},
		"base":    change(api.ErrRange, func(c *api.Curve) { c.Base, c.Kind = -1, 0 }),
		"late":    change(api.ErrRange, func(c *api.Curve) { c.Base = api.LastDay + 1 }),
		"kind":    change(api.ErrKind, func(c *api.Curve) { c.Kind, c.Days = 5, nil }),
		"empty":   change(api.ErrNodes, func(c *api.Curve) { c.Days, c.Factors = nil, nil }),
		"order":   change(api.ErrNodes, func(c *api.Curve) { c.Base = 100 }),
		"days":    change(api.ErrNodes, func(c *api.Curve) { c.Days = []int{100} }),
		"lengths": change(api.ErrNodes, func(c *api.Curve) { c.Factors = []float64{0.5} }),
		"no day":  change(api.ErrNodes, func(c *api.Curve) { c.Days = []int{100, api.LastDay + 1} }),
		"nought":  change(api.ErrNodes, func(c *api.Curve) { c.Factors = []float64{0.5, 0} }),
		"below":   change(api.ErrNodes, func(c *api.Curve) { c.Factors = []float64{-0.5, 1} }),
		"nan":     change(api.ErrNodes, func(c *api.Curve) { c.Factors = []float64{nan, 1} }),
		"inf":     change(api.ErrNodes, func(c *api.Curve) { c.Factors = []float64{0.5, inf} }),
		"many": change(api.ErrNodes, func(c *api.Curve) {
			*c = full(api.ILinear)
			c.Days, c.Factors = append(c.Days, 60000), append(c.Factors, 0.1)
		}),
	}
}

// Promise 25.1: what is wrong: the curve ahead of the kind, the kind ahead of the node, the node ahead of the bump.
func TestApplyRefused(t *testing.T) {
	bumps := append([]float64{0, 0.01, -1e308, 1e308}, notNumbers()...)
	nodes := []int{math.MinInt, -1, 2, 255, 256, 1 << 32, math.MaxInt}
	for _, h := range bumps {
		for _, n := range append([]int{0, 1}, nodes...) {
			for _, kind := range []int{math.MinInt, -1, 0, 1, 2, 3, 4, 1<<32 + 1, math.MaxInt} {
				s := api.Shift{Kind: kind, Node: n, H: h}
				for _, bad := range badCurves() {
					checkApply(t, bad.c, s, refused(bad.e))
				}
				if kind < api.GAll || kind > api.GTilt {
					checkApply(t, given(), s, refused(api.ErrKind))
				}
			}
		}
		for _, n := range nodes {
			for kind := api.GAll; kind <= api.GTilt; kind++ {
				checkApply(t, given(), api.Shift{Kind: kind, Node: n, H: h}, refused(api.ErrArg))
			}
		}
		checkApply(t, given(), api.Shift{Kind: api.GAll, Node: 1, H: h}, refused(api.ErrArg))
		checkApply(t, given(), api.Shift{Kind: api.GTilt, Node: 1, H: h}, refused(api.ErrArg))
	}
	for _, h := range append([]float64{1e308, -1e308, greatest}, notNumbers()...) {
		for _, s := range []api.Shift{all(h), node(0, h), node(1, h), tilt(h)} {
			checkApply(t, given(), s, refused(api.ErrValue))
		}
	}
}

// Promise 25.5 and W8 of DOC.md: a shift by 0 changes nothing.
func TestApplyNothing(t *testing.T) {
	state := uint64(255)
	for i := range 1000 {
		c := someCurve(&state, 1+i%4)
		for _, h := range []float64{0, minus} {
			for _, s := range []api.Shift{all(h), node(below(&state, len(c.Days)), h), tilt(h)} {
				checkApply(t, c, s, told(c, api.OK))
			}
		}
	}
}

// wipeCurve writes over a curve, its spare room too.
func wipeCurve(c api.Curve) {
	for i := range c.Days[:cap(c.Days)] {
		c.Days[:cap(c.Days)][i] = -99
	}
	for i := range c.Factors[:cap(c.Factors)] {
		c.Factors[:cap(c.Factors)][i] = -99
	}
}

// DOC.md, rules 3 and 8, and promise 25.8: the curve that is given stays as it was, its spare room too; the one that is told is new memory.
func TestApplyKeeps(t *testing.T) {
	for _, kind := range kinds() {
		for _, s := range []api.Shift{all(0.01), node(0, 0.01), node(1, 0), tilt(0.01), tilt(0), all(nan), tilt(1e308), {}} {
			days, factors := []int{365, 730, 7, 8, 9}, []float64{0.5, 0.25, 7, 8, 9}
			c := api.Curve{Base: 0, Kind: kind, Days: days[:2], Factors: factors[:2]}
			want := stepApply(c, s)
			got := told(grid.Apply(c, s))
			if !slices.Equal(days, []int{365, 730, 7, 8, 9}) || !slices.Equal(factors, []float64{0.5, 0.25, 7, 8, 9}) {
				t.Errorf("Apply of %v made %v and %v of the curve", s, days, factors)
			}
			again := told(grid.Apply(c, s))
			wipeCurve(got.c)
			if !again.is(want) || !slices.Equal(days, []int{365, 730, 7, 8, 9}) || !slices.Equal(factors, []float64{0.5, 0.25, 7, 8, 9}) {
				t.Errorf("Apply of %v tells memory of others", s)
			}
			wipeCurve(c)
			if !again.is(want) {
				t.Errorf("Apply of %v tells the curve's own memory", s)
			}
		}
	}
}
