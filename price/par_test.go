package price_test

import (
	"math"
	"slices"
	"testing"

	"tenor/api"
	"tenor/flow"
	"tenor/price"
	"tenor/sched"
)

// checkPar holds one answer of Par.
func checkPar(t *testing.T, g api.Leg, c api.Curve, want answer) {
	t.Helper()
	if got := told(price.Par(g, c)); !got.is(want) {
		t.Errorf("Par(%v, %v) is %x, %v, not %x, %v", g, c, got.x, got.e, want.x, want.e)
	}
}

// leg is a leg in the currency 1 whose rate is sought.
func leg(count int, s api.Spec) api.Leg {
	return api.Leg{Kind: api.LFixed, Count: count, Cur: 1, Notional: 1, Spec: s}
}

// once is one period of so many days from the day 0 on.
func once(days int) api.Spec {
	return api.Spec{End: days, N: 1200, Unit: api.UYear, Stub: api.SShortLast}
}

// each is periods of so many days from one day to another.
func each(days, from, to int) api.Spec {
	return api.Spec{Start: from, End: to, N: days, Unit: api.UDay, Stub: api.SShortFirst}
}

// Promise 15.4: bits, reckoned elsewhere, of schedules of each unit, stub, roll and convention.
func TestParKnown(t *testing.T) {
	const b = 45290
	specs := []api.Spec{
		{Start: 45670, End: 46263, N: 3, Unit: api.UMonth, Stub: api.SShortFirst, Conv: api.CModFollow, Lag: 2, Cal: week()},
		{Start: 45349, End: 46475, N: 6, Unit: api.UMonth, Stub: api.SLongFirst, Roll: api.REnd, Conv: api.CFollow, Cal: week()},
		{Start: 45733, End: 46188, N: 3, Unit: api.UMonth, Stub: api.SShortLast, Roll: api.RThird, Lag: 1, Cal: week()},
		{Start: 45748, End: 45826, N: 2, Unit: api.UWeek, Stub: api.SLongLast, Conv: api.CModPrecede, Cal: week()},
		{Start: 46019, End: 46071, N: 17, Unit: api.UDay, Stub: api.SShortFirst, Conv: api.CPrecede},
		{Start: 45320, End: 47967, N: 1, Unit: api.UYear, Stub: api.SShortLast, Conv: api.CModFollow, Lag: 3, Cal: week()},
	}
	for _, x := range []struct {
		spec, count, kind int
		want              float64
	}{
		{0, api.D360, api.IFlat, 0x1.0fbdfb13ecfacp-4},
		{0, api.D365, api.ILinear, 0x1.a94e9775c7e0fp-5},
		{0, api.DAct, api.ICubic, 0x1.ab1c95cafa109p-5},
		{0, api.DBond, api.ILog, 0x1.a99115cfc2faep-5},
		{1, api.DEuro, api.IFlat, 0x1.4723b4c52345ep-5},
		{1, api.DOpen, api.ILinear, 0x1.9228d610d961cp-5},
		{1, api.D360, api.ICubic, 0x1.9e1492cb86866p-5},
		{1, api.D365, api.ILog, 0x1.9f3a81fb0d301p-5},
		{2, api.DAct, api.IFlat, 0x1.fb5faa29da9e8p-8},
		{2, api.DBond, api.ILinear, 0x1.c1a89e06ce82cp-5},
		{2, api.DEuro, api.ICubic, 0x1.bfcfc1e90cd1ep-5},
		{2, api.DOpen, api.ILog, 0x1.b49d6edc01fe2p-5},
		{3, api.D360, api.IFlat, 0},
		{3, api.D365, api.ILinear, 0x1.806411f18aa55p-6},
		{3, api.DAct, api.ICubic, 0x1.6418a5ae6b876p-6},
		{3, api.DBond, api.ILog, 0x1.7f7feaba6591cp-6},
		{4, api.DEuro, api.IFlat, 0},
		{4, api.DOpen, api.ILinear, 0x1.6cdbb4f76d855p-5},
		{4, api.D360, api.ICubic, 0x1.2cd1ea27d0261p-4},
		{4, api.D365, api.ILog, 0x1.06ebf1d21962fp-4},
		{5, api.DAct, api.IFlat, 0x1.ab2baf6c502f2p-6},
		{5, api.DBond, api.ILinear, 0x1.70bd9100daa96p-5},
		{5, api.DEuro, api.ICubic, 0x1.72bb70d380ecdp-5},
		{5, api.DOpen, api.ILog, 0x1.68abbabd52e4cp-5},
	} {
		c := api.Curve{Base: b, Kind: x.kind, Days: []int{b + 91, b + 400, b + 550, b + 900, b + 1300, b + 3000}, Factors: []float64{0.9871, 0.9502, 0.9411, 0.8850, 0.8351, 0.7003}}
		checkPar(t, leg(x.count, specs[x.spec]), c, value(x.want))
	}
}

// Promise 15.4: by hand.
func TestParHand(t *testing.T) {
	at := func(x float64) api.Curve {
		return api.Curve{Kind: api.ILinear, Days: []int{360}, Factors: []float64{x}}
	}
	for _, x := range []struct{ factor, want float64 }{
		{0.8, 0.25 - 0x1p-54}, // 0.8 as a number lies above 4 / 5
		{0.5, 1},
		{0.25, 3},
		{1, 0},
		{2, -0.5},
		{0x1p-1022, 0x1p1022},
		{0x1p-1023, 0x1p1023},
		{greatest, -1},
		{1 - 0x1p-53, 0x1p-53 * (1 + 0x1p-52)},
	} {
		checkPar(t, leg(api.D360, once(360)), at(x.factor), value(x.want))
	}
	// What is divided by a sum that is too small is no number.
	for _, x := range []float64{0x1p-1024, 0x1p-1025, least} {
		checkPar(t, leg(api.D360, once(360)), at(x), wrong(api.ErrValue))
	}
	// Two periods of a year: (0.5 - 0.125) / (0.25 + 0.125).
	c := api.Curve{Base: 100, Kind: api.IFlat, Days: []int{360, 720, 1080}, Factors: []float64{0.5, 0.25, 0.125}}
	checkPar(t, leg(api.D360, each(360, 360, 1080)), c, value(1))
	// From the base on the factor is 1, and between two nodes that of the first.
	checkPar(t, leg(api.D360, each(360, 100, 820)), c, value(0.75/0.75))
	// A rising curve has a rate below 0.
	checkPar(t, leg(api.D360, once(360)), api.Curve{Kind: api.ILog, Days: []int{360}, Factors: []float64{4}}, value(-0.75))
}

// Promise 15.4: the sum is exact till it is told, and the quotient is of the two rounded ones.
func TestParExact(t *testing.T) {
	// 1 + 2^-53 + 2^-53: by steps from the left it would be 1.
	c := api.Curve{Kind: api.IFlat, Days: []int{360, 720, 1080}, Factors: []float64{1, 0x1p-53, 0x1p-53}}
	checkPar(t, leg(api.D360, each(360, 0, 1080)), c, value(1-0x3p-53)) // (1 - 2^-53) / (1 + 2^-52)
	c.Factors = []float64{greatest, 1, 1}
	checkPar(t, leg(api.D360, each(360, 0, 1080)), c, value(0))
}

// Promise 15.4: a sum that is too great is above 0, and what is divided by it is a zero.
func TestParGreat(t *testing.T) {
	two := func(a, b float64) api.Curve {
		return api.Curve{Kind: api.IFlat, Days: []int{360, 720}, Factors: []float64{a, b}}
	}
	g := leg(api.D360, each(360, 0, 720))
	checkPar(t, g, two(greatest, greatest), value(minus))
	checkPar(t, g, two(greatest, 0x1p970), value(minus))
	checkPar(t, g, two(greatest, 0x1p969), value(-0x1.0000000000001p-55))
	g.Spec = api.Spec{Start: 0, End: 1440, N: 720, Unit: api.UDay, Stub: api.SShortLast}
	c := api.Curve{Kind: api.IFlat, Days: []int{720, 1440}, Factors: []float64{greatest, 0.5}}
	checkPar(t, g, c, value(0))
	c.Factors[1] = 1
	checkPar(t, g, c, value(0))
}

// Promise 15.4: a leg whose periods have no year.
func TestParNoYear(t *testing.T) {
	month := api.Spec{Start: 46019, End: 46020, N: 1, Unit: api.UMonth, Stub: api.SShortFirst} // from the 30th to the 31st
	rest := api.Spec{Start: 5, End: 7, N: 1, Unit: api.UMonth, Stub: api.SShortFirst, Cal: api.Calendar{Weekend: 96}}
	moved := api.Spec{Start: 5, End: 6, N: 1, Unit: api.UDay, Stub: api.SShortFirst, Conv: api.CFollow, Cal: api.Calendar{Weekend: 96}}
	for _, kind := range kinds() {
		c := api.Curve{Kind: kind, Days: []int{50000}, Factors: []float64{0.5}}
		for _, x := range []struct {
			s     api.Spec
			count int
		}{{month, api.DEuro}, {month, api.DBond}, {rest, api.DOpen}, {moved, api.D365}, {moved, api.DAct}} {
			checkPar(t, leg(x.count, x.s), c, wrong(api.ErrValue))
			// A day of the curve that is missing is told ahead of that.
			late := c
			late.Base = x.s.Start + 1
			if x.s.Conv == api.CNone {
				checkPar(t, leg(x.count, x.s), late, wrong(api.ErrRange))
			}
		}
	}
	// The least year and the least factor: the sum is not 0, but rounds to it.
	tiny := api.Curve{Kind: api.IFlat, Days: []int{1}, Factors: []float64{least}}
	checkPar(t, leg(api.D360, once(1)), tiny, wrong(api.ErrValue))
	tiny.Factors[0] = 0x1p-1060
	checkPar(t, leg(api.D360, once(1)), tiny, wrong(api.ErrValue))
	tiny.Factors[0] = 0x1p-1000
	checkPar(t, leg(api.D360, once(1)), tiny, stepPar(leg(api.D360, once(1)), tiny))
}

// Promise 15.4: each step, of all sorts of legs and curves; neither the notional's size nor the rate is looked at.
func TestParSteps(t *testing.T) {
	state := uint64(154)
	seen := map[api.Errno]int{}
	for range 3000 {
		g := someLeg(&state)
		c := curveFor(&state, g.Spec)
		want := stepPar(g, c)
		checkPar(t, g, c, want)
		seen[want.e]++
		g.Notional, g.Rate = someLeg(&state).Notional, []float64{nan, -inf, 7}[below(&state, 3)]
		checkPar(t, g, c, want)
	}
	if seen[api.OK] < 1500 || seen[api.ErrRange] < 100 || seen[api.ErrValue] < 15 {
		t.Errorf("only %v", seen)
	}
}

// Promise 15.4: what it is: at that rate the leg is worth, but for roundings, what the notional is, paid at the start and back at the end.
func TestParMeets(t *testing.T) {
	state := uint64(1540)
	held := 0
	for range 500 {
		g := someLeg(&state)
		g.Notional = 100
		c := api.Curve{Base: g.Spec.Start - 30, Kind: 1 + below(&state, 4), Days: []int{g.Spec.Start + 20, g.Spec.End + 60}, Factors: []float64{0.99, 0.9}}
		r, e := price.Par(g, c)
		if e != api.OK {
			continue
		}
		periods, _ := sched.Periods(g.Spec)
		g.Rate = r
		l, e := flow.Bond(g)
		if e != api.OK {
			t.Fatalf("Bond(%v): %v", g, e)
		}
		l = append(l, f(periods[0].Start, -g.Notional, g.Cur))
		if v, e := price.Present(l, g.Cur, c); e != api.OK || math.Abs(v) > 1e-11 {
			t.Errorf("%v on %v at %v is worth %v, %v", g, c, r, v, e)
		}
		held++
	}
	if held < 300 {
		t.Errorf("only %d legs", held)
	}
}

// Promise 15.4: what is wrong, in its order: kind, currency, notional, schedule, curve, then the count, the factors at Pay, and at Start.
func TestParRefusals(t *testing.T) {
	c := api.Curve{Kind: api.ILinear, Days: []int{100, 60000}, Factors: []float64{0.5, 0.25}}
	good := leg(api.D365, each(30, 50, 200))
	checkPar(t, good, c, stepPar(good, c))
	curves := []api.Curve{c}
	for _, x := range badCurves() {
		curves = append(curves, x.c)
		for _, count := range []int{api.D365, 0, 7} {
			g := good
			g.Count = count
			checkPar(t, g, x.c, wrong(x.e))
		}
	}
	refused := func(g api.Leg, want api.Errno) {
		t.Helper()
		for _, d := range curves {
			checkPar(t, g, d, wrong(want))
		}
	}
	for _, x := range badSpecs() {
		for _, count := range []int{api.D365, 0} {
			g := leg(count, x.s)
			refused(g, x.e)
			for _, bad := range []float64{nan, inf, -inf, 0, minus, -1, -least, -greatest} {
				g.Cur, g.Notional = 8, bad
				refused(g, api.ErrValue)
				for _, cur := range noCurs() {
					g.Cur = cur
					refused(g, api.ErrCur)
				}
				for _, kind := range []int{math.MinInt, -1, 0, api.LFloat, 3, 256 + api.LFixed, math.MaxInt} {
					other := g
					other.Kind = kind
					refused(other, api.ErrKind)
				}
			}
		}
	}
	for _, x := range []float64{least, 1, greatest} {
		for cur := 1; cur <= 8; cur++ {
			g := good
			g.Notional, g.Cur = x, cur
			checkPar(t, g, c, stepPar(good, c))
		}
	}
}

// badSpecs is schedules that may not be, each with its error.
func badSpecs() map[string]struct {
	s api.Spec
	e api.Errno
} {
	type bad = struct {
		s api.Spec
		e api.Errno
	}
	with := func(change func(*api.Spec)) api.Spec {
		s := each(30, 50, 200)
		change(&s)
		return s
	}
	return map[string]bad{
		"start":  {with(func(s *api.Spec) { s.Start = -1 }), api.ErrRange},
		"end":    {with(func(s *api.Spec) { s.End = api.LastDay + 1 }), api.ErrRange},
		"order":  {with(func(s *api.Spec) { s.End = s.Start }), api.ErrSpec},
		"nought": {with(func(s *api.Spec) { s.N = 0 }), api.ErrSpec},
		"closed": {with(func(s *api.Spec) { s.Cal = closed() }), api.ErrCal},
		"rule":   {with(func(s *api.Spec) { s.Cal = odd() }), api.ErrCal},
		"rules":  {with(func(s *api.Spec) { s.Cal = tooMany() }), api.ErrLong},
		"many":   {each(1, 0, 1201), api.ErrMany},
		"pay":    {api.Spec{Start: api.LastDay - 9, End: api.LastDay, N: 1, Unit: api.UDay, Stub: api.SLongLast, Lag: 1}, api.ErrRange},
	}
}

// Promise 15.4: no count, and days beyond the curve: the count first, whichever day it is; then the payments, then the start.
func TestParDays(t *testing.T) {
	for _, kind := range kinds() {
		from := func(base, end int) api.Curve {
			return api.Curve{Base: base, Kind: kind, Days: []int{300, end}, Factors: []float64{0.5, 0.25}}
		}
		g := leg(api.D360, each(100, 200, 400))
		checkPar(t, g, from(200, 400), stepPar(g, from(200, 400)))
		if a := stepPar(g, from(200, 400)); a.e != api.OK {
			t.Errorf("kind %d: the steps tell %v", kind, a)
		}
		checkPar(t, g, from(201, 400), wrong(api.ErrRange))
		checkPar(t, g, from(200, 399), wrong(api.ErrRange))
		checkPar(t, g, from(299, 301), wrong(api.ErrRange))
		lagged := g
		lagged.Spec.Lag = 5
		checkPar(t, lagged, from(200, 404), wrong(api.ErrRange))
		checkPar(t, lagged, from(200, 405), stepPar(lagged, from(200, 405)))
		for _, n := range []int{math.MinInt, -1, 0, 7, 256 + api.D360, 1<<32 + api.DOpen, math.MaxInt} {
			g.Count = n
			for _, c := range []api.Curve{from(200, 400), from(201, 400), from(200, 399), from(299, 301)} {
				checkPar(t, g, c, wrong(api.ErrCount))
			}
		}
	}
}

// Promise 15.4: the days are those of the periods: the year from Start to End, the factor at Pay, and none at the days that cut.
func TestParAdjusted(t *testing.T) {
	s := api.Spec{Start: 45688, End: 45779, N: 1, Unit: api.UMonth, Stub: api.SShortFirst, Conv: api.CFollow, Lag: 3, Cal: week()} // from a Sunday to a Sunday
	periods, e := sched.Periods(s)
	first, end := periods[0], periods[len(periods)-1]
	if e != api.OK || first.Start == first.From || end.End == end.To || end.Pay == end.End {
		t.Fatalf("the periods are %v, %v", periods, e)
	}
	c := api.Curve{Base: first.Start, Kind: api.ILinear, Days: []int{end.Pay}, Factors: []float64{0.5}}
	for _, n := range counts() {
		g := leg(n, s)
		want := stepPar(g, c)
		if want.e != api.OK {
			t.Errorf("count %d: %v", n, want.e)
		}
		checkPar(t, g, c, want)
		short, late := c, c
		short.Days, late.Base = []int{end.Pay - 1}, first.Start+1
		checkPar(t, g, short, wrong(api.ErrRange))
		checkPar(t, g, late, wrong(api.ErrRange))
	}
	// The calendar is that of the schedule, asked by DOpen alone.
	plain := each(91, 45700, 46064)
	few := plain
	few.Cal = api.Calendar{Weekend: 126}
	for _, n := range counts() {
		c := api.Curve{Base: 45600, Kind: api.ILog, Days: []int{46100}, Factors: []float64{0.5}}
		a, b := told(price.Par(leg(n, plain), c)), told(price.Par(leg(n, few), c))
		if a.e != api.OK || b.e != api.OK || a.is(b) != (n != api.DOpen) {
			t.Errorf("count %d: %v, and %v with all but one day closed", n, a, b)
		}
	}
}

// Promise 15.4: as many periods, nodes and rules as may be.
func TestParFull(t *testing.T) {
	s := api.Spec{Start: 0, End: 36524, N: 1, Unit: api.UMonth, Stub: api.SShortLast, Conv: api.CModFollow, Lag: 30, Cal: api.Calendar{Weekend: 96}}
	for i := range api.MaxRules {
		s.Cal.Rules = append(s.Cal.Rules, api.Rule{Kind: api.HFix, Month: 1 + i%12, Day: 1 + i/3, From: 1900, To: 2199, Move: i % 3})
	}
	periods, e := sched.Periods(s)
	if e != api.OK || len(periods) != api.MaxPeriods {
		t.Fatalf("%d periods, %v", len(periods), e)
	}
	c := api.Curve{Base: 0, Kind: api.ICubic}
	for i := range api.MaxNodes - 1 {
		c.Days, c.Factors = append(c.Days, 150*(i+1)), append(c.Factors, 1/float64(i+2))
	}
	for _, n := range slices.Concat(counts(), []int{0}) {
		checkPar(t, leg(n, s), c, stepPar(leg(n, s), c))
	}
	s.End++
	checkPar(t, leg(api.D360, s), c, wrong(api.ErrMany))
}
