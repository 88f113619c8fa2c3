package bond_test

import (
	"math"
	"slices"
	"testing"

	"tenor/api"
	"tenor/bond"
	"tenor/date"
	"tenor/flow"
	"tenor/price"
	"tenor/sched"
)

// checkAccrued holds one answer of Accrued.
func checkAccrued(t *testing.T, g api.Leg, n int, want answer) {
	t.Helper()
	if got := told(bond.Accrued(g, n)); !got.is(want) {
		t.Errorf("Accrued(%v, %d) is %x, %v, not %x, %v", g, n, got.x, got.e, want.x, want.e)
	}
}

// checkDirty holds one answer of Dirty, and checkClean one of Clean.
func checkDirty(t *testing.T, g api.Leg, c api.Curve, want answer) {
	t.Helper()
	if got := told(bond.Dirty(g, c)); !got.is(want) {
		t.Errorf("Dirty(%v, %v) is %x, %v, not %x, %v", g, c, got.x, got.e, want.x, want.e)
	}
}

func checkClean(t *testing.T, g api.Leg, c api.Curve, want answer) {
	t.Helper()
	if got := told(bond.Clean(g, c)); !got.is(want) {
		t.Errorf("Clean(%v, %v) is %x, %v, not %x, %v", g, c, got.x, got.e, want.x, want.e)
	}
}

// checkRefused holds that all three answer that error.
func checkRefused(t *testing.T, g api.Leg, n int, c api.Curve, want api.Errno) {
	t.Helper()
	checkAccrued(t, g, n, wrong(want))
	checkDirty(t, g, c, wrong(want))
	checkClean(t, g, c, wrong(want))
}

// leg is a leg of a fixed rate in the currency 1.
func leg(count int, notional, rate float64, s api.Spec) api.Leg {
	return api.Leg{Kind: api.LFixed, Count: count, Cur: 1, Notional: notional, Rate: rate, Spec: s}
}

// The days of some dates of 2025 and 2026.
const (
	jan15  = 45670 // 2025-01-15
	jul15  = 45851 // 2025-07-15
	next15 = 46035 // 2026-01-15
)

// halves is a year from 2025-01-15 on, cut in two.
func halves() api.Spec {
	return api.Spec{Start: jan15, End: next15, N: 6, Unit: api.UMonth, Stub: api.SShortFirst}
}

// once is one period of so many days from the day 0 on.
func once(days int) api.Spec {
	return api.Spec{End: days, N: 1200, Unit: api.UYear, Stub: api.SShortLast}
}

// knownSpecs is schedules of each unit, stub, roll and convention.
func knownSpecs() []api.Spec {
	return []api.Spec{
		{Start: 45670, End: 46263, N: 3, Unit: api.UMonth, Stub: api.SShortFirst, Conv: api.CModFollow, Lag: 2, Cal: week()},
		{Start: 45349, End: 46475, N: 6, Unit: api.UMonth, Stub: api.SLongFirst, Roll: api.REnd, Conv: api.CFollow, Cal: week()},
		{Start: 45733, End: 46188, N: 3, Unit: api.UMonth, Stub: api.SShortLast, Roll: api.RThird, Lag: 1, Cal: week()},
		{Start: 45748, End: 45826, N: 2, Unit: api.UWeek, Stub: api.SLongLast, Conv: api.CModPrecede, Cal: week()},
		{Start: 46019, End: 46071, N: 17, Unit: api.UDay, Stub: api.SShortFirst, Conv: api.CPrecede},
		{Start: 45320, End: 47967, N: 1, Unit: api.UYear, Stub: api.SShortLast, Conv: api.CModFollow, Lag: 3, Cal: week()},
	}
}

// The chapter's examples.
func TestExamples(t *testing.T) {
	g := leg(api.DEuro, 100, 0.05, halves())
	for text, want := range map[string]float64{"2025-01-15": 0, "2025-04-15": 1.25, "2026-01-15": 0, "2024-01-01": 0} {
		n, e := date.Parse(text)
		if e != api.OK {
			t.Fatal(text, e)
		}
		checkAccrued(t, g, n, value(want))
	}
	a := asked{[]api.Flow{pay(1360, 110)}, 1, api.KSimple, api.D360, 1000}
	checkWorth(t, a, 0.1, value(100))
	y, e := bond.Yield(a.l, a.cur, a.kind, a.count, a.base, 100)
	if e != api.OK || math.Abs(y-0.1) > 0x1p-50 {
		t.Errorf("the yield is %x, %v", y, e)
	}
	checkYield(t, a, 1e6, wrong(api.ErrBracket))
}

// Promise 22.1: bits, reckoned elsewhere.
func TestAccruedKnown(t *testing.T) {
	specs := knownSpecs()
	for _, x := range []struct {
		spec, count    int
		notional, rate float64
		want           map[int]float64
	}{
		{0, api.D360, 100, 0.05, map[int]float64{45669: 0, 45670: 0, 45692: 0x1.38e38e38e38e3p-2, 45713: 0x1.31c71c71c71c7p-1, 45714: 0, 45759: 0x1.4p-1, 45804: 0x1.4p+0, 46169: 0, 46216: 0x1.4e38e38e38e39p-1, 46262: 0x1.4aaaaaaaaaaabp+0, 46263: 0, 46265: 0}},
		{0, api.DBond, 1e6, 0.0425, map[int]float64{45669: 0, 45670: 0, 45692: 0x1.35e5555555555p+11, 45713: 0x1.35e5555555555p+12, 45714: 0, 45759: 0x1.5368e38e38e38p+12, 45804: 0x1.4fb871c71c71cp+13, 46169: 0, 46216: 0x1.5368e38e38e38p+12, 46262: 0x1.4fb871c71c71cp+13, 46263: 0, 46265: 0}},
		{1, api.DAct, 1e6, 0.0425, map[int]float64{45348: 0, 45349: 0, 45456: 0x1.8446e837f4cfp+13, 45562: 0x1.82766d1d60864p+14, 45563: 0, 45654: 0x1.4a3784e56bb74p+13, 45744: 0x1.48d705ce71b6cp+14, 46293: 0, 46384: 0x1.4b1f1f8fc7e3fp+13, 46474: 0x1.494d5eaf57abep+14, 46475: 0}},
		{1, api.DOpen, 12345.678, -0.0075, map[int]float64{45348: 0, 45349: minus, 45456: -0x1.becbc468b7982p+4, 45562: -0x1.bbdb44cd14b3dp+5, 45563: minus, 45654: -0x1.7e20cd08b7f81p+4, 45744: -0x1.7e20cd08b7f81p+5, 46293: minus, 46384: -0x1.7e20cd08b7f81p+4, 46474: -0x1.7b304d6d1513ap+5, 46475: 0}},
		{2, api.DEuro, 12345.678, -0.0075, map[int]float64{45732: 0, 45733: minus, 45778: -0x1.6a23cfb3311a5p+3, 45823: -0x1.6a23cfb3311a5p+4, 45824: minus, 45869: -0x1.6a23cfb3311a5p+3, 45914: -0x1.6a23cfb3311a5p+4, 46097: minus, 46142: -0x1.6a23cfb3311a5p+3, 46187: -0x1.6a23cfb3311a5p+4, 46188: 0, 46189: 0}},
		{2, api.D365, 1e6, 0.0425, map[int]float64{45732: 0, 45733: 0, 45778: 0x1.477b9dcee773bp+12, 45823: 0x1.477b9dcee773bp+13, 45824: 0, 45869: 0x1.477b9dcee773bp+12, 45914: 0x1.477b9dcee773bp+13, 46097: 0, 46142: 0x1.477b9dcee773bp+12, 46187: 0x1.477b9dcee773bp+13, 46188: 0, 46189: 0}},
		{3, api.D360, 1e6, 0.0425, map[int]float64{45747: 0, 45748: 0, 45755: 0x1.9d31c71c71c72p+9, 45761: 0x1.7fae38e38e38ep+10, 45762: 0, 45769: 0x1.9d31c71c71c72p+9, 45776: 0x1.9d31c71c71c72p+10, 45804: 0, 45815: 0x1.44a71c71c71c7p+10, 45825: 0x1.35e5555555555p+11, 45826: 0}},
		{3, api.DBond, 12345.678, -0.0075, map[int]float64{45747: 0, 45748: minus, 45755: -0x1.cce7c286f8ad2p+0, 45761: -0x1.abfbc6eb0b7c3p+1, 45762: minus, 45769: -0x1.cce7c286f8ad2p+0, 45776: -0x1.cce7c286f8ad2p+1, 45804: minus, 45815: -0x1.4937d41743e96p+1, 45825: -0x1.4937d41743e96p+2, 45826: 0}},
		{4, api.DAct, 12345.678, -0.0075, map[int]float64{46018: 0, 46019: minus, 46020: minus, 46028: -0x1.03c43f8bb1ba4p+1, 46036: -0x1.03c43f8bb1ba4p+2, 46054: minus, 46062: -0x1.03c43f8bb1ba4p+1, 46070: -0x1.03c43f8bb1ba4p+2, 46071: 0}},
		{4, api.DOpen, -2.5e7, 0.0311, map[int]float64{46018: 0, 46019: minus, 46020: minus, 46028: -0x1.81aa28a28a28ap+14, 46036: -0x1.81aa28a28a28ap+15, 46054: minus, 46062: -0x1.81aa28a28a28ap+14, 46070: -0x1.81aa28a28a28ap+15, 46071: 0}},
		{5, api.DEuro, -2.5e7, 0.0311, map[int]float64{45319: 0, 45320: minus, 45503: -0x1.7dbf6e38e38e3p+18, 45685: -0x1.7ba38p+19, 45686: minus, 45868: -0x1.7dbf6e38e38e3p+18, 46049: -0x1.7a9588e38e38ep+19, 47877: minus, 47922: -0x1.8c82f1c71c71dp+16, 47967: -0x1.7fdb5c71c71c7p+17, 47968: 0, 47973: 0}},
		{5, api.DOpen, 12345.678, 0.0425, map[int]float64{45319: 0, 45320: 0, 45503: 0x1.0eac913b824fcp+8, 45685: 0x1.0eac913b824fcp+9, 45686: 0, 45868: 0x1.0c978c2d44434p+8, 46049: 0x1.0c978c2d44434p+9, 47877: 0, 47922: 0x1.022e72e60e052p+6, 47967: 0x1.0a82871f0636dp+7, 47968: 0, 47973: 0}},
	} {
		for n, want := range x.want {
			checkAccrued(t, leg(x.count, x.notional, x.rate, specs[x.spec]), n, value(want))
		}
	}
}

// Promise 22.1: by hand, where a step more or less, or in another order, would be seen.
func TestAccruedHand(t *testing.T) {
	for _, x := range []struct {
		notional, rate float64
		n              int // of 36000 days of D360
		want           float64
	}{
		{100, 0.05, 360, 5},
		{100, 0.05, 0, 0},
		{100, -0.05, 360, -5},
		{100, -0.05, 0, minus},
		{-100, 0.05, 0, minus},
		{-100, -0.05, 0, 0},
		{0, 0.05, 360, 0},
		{minus, 0.05, 360, minus},
		{100, minus, 360, minus},
		{-100, minus, 360, 0},
		{100, 0.05, 36000, 0},
		{-100, 0.05, 36000, 0},
		{100, 0.05, 36001, 0},
		{100, 0.05, api.LastDay, 0},
		{-100, 0.05, api.LastDay, 0},
		// The product of notional and rate is rounded ahead of the year: not notional * (rate * year), and not in one go.
		{1e6, 0.1, 181, 0x1.88cb8e38e38e3p+15},
		{3, 0.0425, 91, 0x1.08057619f0fb3p-5},
		{3, 0.7, 365, 0x1.1088888888887p+1},
		{10, 0.7, 7, 0x1.16c16c16c16c2p-3},
		{least, 0.5, 720, 0},
		{least, -0.5, 720, minus},
		{3 * least, 0.5, 720, 4 * least},
		{0x1p1000, 0x1p-1000, 1800, 5},
		{greatest / 128, 1, 360, greatest / 128},
		{least, 1, 1, 0},
		{-least, 1, 1, minus},
		{least, 1, 181, least},
	} {
		checkAccrued(t, leg(api.D360, x.notional, x.rate, once(36000)), x.n, value(x.want))
	}
	// A leg may begin on the day 0 and end on the last one.
	whole := leg(api.D360, 36, 0.5, once(api.LastDay))
	checkAccrued(t, whole, 0, value(0))
	checkAccrued(t, whole, 304*360, value(18*304))
	checkAccrued(t, whole, api.LastDay-1, value(times(18, over(api.LastDay-1, 360))))
	checkAccrued(t, whole, api.LastDay, value(0))
}

// Promise 22.1: the day lies between the days on which the period truly starts and ends, not those that cut.
func TestAccruedAdjusted(t *testing.T) {
	// What so many days come to at a rate of 360 a year.
	days := func(n int) answer { return value(times(360, over(float64(n), 360))) }
	// 2025-08-31 is a Sunday: the first period ends on the Friday ahead of it, and the second one starts there.
	s := api.Spec{Start: 45869, End: 45928, N: 1, Unit: api.UMonth, Stub: api.SShortFirst, Roll: api.REnd, Conv: api.CModFollow, Cal: week()}
	g := leg(api.D360, 360, 1, s)
	for n, want := range map[int]int{45868: 0, 45869: 0, 45870: 0, 45871: 0, 45872: 1, 45895: 24, 45896: 0, 45897: 1, 45898: 2, 45899: 3, 45927: 31, 45928: 0} {
		checkAccrued(t, g, n, days(want))
		// The payment's day changes nothing.
		late := g
		late.Spec.Lag = 30
		checkAccrued(t, late, n, days(want))
	}
	// Two periods of each weekend have no day at all; Friday's has three.
	s = api.Spec{Start: 45866, End: 45880, N: 1, Unit: api.UDay, Stub: api.SShortFirst, Conv: api.CFollow, Cal: week()}
	if l, e := sched.Periods(s); e != api.OK || len(l) != 14 || l[3].Start != l[3].End || l[4].Start != l[4].End {
		t.Fatalf("the periods are %v, %v", l, e)
	}
	g = leg(api.D360, 360, 1, s)
	for n := 45860; n < 45890; n++ {
		want := 0
		if weekday := n % 7; 45866 <= n && n < 45880 && weekday > 4 {
			want = weekday - 4
		}
		checkAccrued(t, g, n, days(want))
	}
	// The count's calendar is that of the schedule: 10 Mondays.
	g = leg(api.DOpen, 252, 1, halves())
	g.Spec.Cal = api.Calendar{Weekend: 126}
	checkAccrued(t, g, jan15+70, value(times(252, over(10, 252))))
}

// daysOf is some days of a leg's: about each of its cuts, and others.
func daysOf(state *uint64, s api.Spec) []int {
	days := []int{0, max(0, s.Start-1), s.End, min(api.LastDay, s.End+40)}
	periods, e := sched.Periods(s)
	if e != api.OK {
		return days
	}
	for range 12 {
		p := periods[below(state, len(periods))]
		days = append(days, p.Start, max(0, p.Start-1), p.Start+1, p.To, p.End, p.Pay, p.Start+below(state, p.End-p.Start+1))
	}
	return days
}

// Promise 22.1: each step, of all sorts of legs.
func TestAccruedSteps(t *testing.T) {
	state := uint64(221)
	inside, bad := 0, 0
	for range 400 {
		g := someLeg(&state)
		for _, n := range daysOf(&state, g.Spec) {
			want := stepAccrued(g, n)
			checkAccrued(t, g, n, want)
			if want.e != api.OK {
				bad++
			} else if want.x != 0 {
				inside++
			}
		}
	}
	if inside < 7000 || bad < 200 {
		t.Errorf("only %d within a period, %d errors", inside, bad)
	}
}

// Promise 22.6: a zero on each period's Start, +0 from the last End on, and within a period it does not fall.
func TestAccruedShape(t *testing.T) {
	state := uint64(226)
	rises := 0
	for i := range 120 {
		g := someLeg(&state)
		g.Count = counts()[i%6]
		g.Notional, g.Rate = math.Ldexp(1+unit(&state), below(&state, 40)), unit(&state)+0.001
		periods, e := sched.Periods(g.Spec)
		if e != api.OK {
			t.Fatal(g, e)
		}
		for _, p := range periods[:min(len(periods), 8)] {
			if x, e := bond.Accrued(g, p.Start); x != 0 || e != api.OK {
				t.Errorf("Accrued(%v, %d), at the start, is %x, %v", g, p.Start, x, e)
			}
			last := 0.0
			for n := p.Start; n < min(p.End, p.Start+70); n++ {
				x, e := bond.Accrued(g, n)
				if e != api.OK || !(x >= last) {
					t.Errorf("Accrued(%v, %d) is %x, %v, behind %x", g, n, x, e, last)
				}
				if x > last {
					rises++
				}
				last = x
			}
		}
		g.Rate *= float64(1 - 2*(i%2))
		end := periods[len(periods)-1].End
		for _, n := range []int{end, end + 1, end + 1000, api.LastDay} {
			checkAccrued(t, g, n, value(0))
		}
	}
	if rises < 8000 {
		t.Errorf("only %d days on which it rose", rises)
	}
}

// given is a curve on which halves can be priced.
func given() api.Curve {
	return api.Curve{Base: jan15 + 90, Kind: api.ILinear, Days: []int{47482}, Factors: []float64{0.8}}
}

// badLegs is legs that may not be, each with its error: what is wrong first counts.
func badLegs() map[string]struct {
	g api.Leg
	e api.Errno
} {
	type bad = struct {
		g api.Leg
		e api.Errno
	}
	with := func(e api.Errno, change func(*api.Leg)) bad {
		g := leg(api.DEuro, 100, 0.05, halves())
		change(&g)
		return bad{g, e}
	}
	return map[string]bad{
		"nothing":     {api.Leg{}, api.ErrKind},
		"kind":        with(api.ErrKind, func(g *api.Leg) { g.Kind, g.Cur = api.LFloat, 9 }),
		"kind 3":      with(api.ErrKind, func(g *api.Leg) { g.Kind = 3 }),
		"currency":    with(api.ErrCur, func(g *api.Leg) { g.Cur, g.Notional = 0, nan }),
		"currency 9":  with(api.ErrCur, func(g *api.Leg) { g.Cur = 9 }),
		"notional":    with(api.ErrValue, func(g *api.Leg) { g.Notional, g.Spec.Start = nan, -1 }),
		"rate":        with(api.ErrValue, func(g *api.Leg) { g.Rate, g.Spec.N = inf, 0 }),
		"start":       with(api.ErrRange, func(g *api.Leg) { g.Spec.Start, g.Spec.N = -1, 0 }),
		"end":         with(api.ErrSpec, func(g *api.Leg) { g.Spec.End = jan15 }),
		"step":        with(api.ErrSpec, func(g *api.Leg) { g.Spec.N, g.Spec.Cal, g.Count = 0, closed(), 0 }),
		"calendar":    with(api.ErrCal, func(g *api.Leg) { g.Spec.Cal, g.Count = closed(), 0 }),
		"rule":        with(api.ErrCal, func(g *api.Leg) { g.Spec.Cal = odd() }),
		"rules":       with(api.ErrLong, func(g *api.Leg) { g.Spec.Cal = tooMany() }),
		"periods":     with(api.ErrMany, func(g *api.Leg) { g.Spec.Start, g.Spec.N, g.Spec.Unit = 0, 1, api.UDay }),
		"payment":     with(api.ErrRange, func(g *api.Leg) { g.Spec.End, g.Spec.Lag, g.Spec.N = api.LastDay, 1, 1200 }),
		"count":       with(api.ErrCount, func(g *api.Leg) { g.Count, g.Notional = 0, greatest }),
		"count 7":     with(api.ErrCount, func(g *api.Leg) { g.Count = 7 }),
		"too great":   with(api.ErrValue, func(g *api.Leg) { g.Notional, g.Rate = greatest, 5 }),
		"no interest": with(api.ErrValue, func(g *api.Leg) { g.Notional, g.Rate, g.Count = greatest, 2, api.D360 }),
	}
}

// badCurves is curves that may not be, each with its error.
func badCurves() map[string]struct {
	c api.Curve
	e api.Errno
} {
	type bad = struct {
		c api.Curve
		e api.Errno
	}
	with := func(e api.Errno, change func(*api.Curve)) bad {
		c := given()
		change(&c)
		return bad{c, e}
	}
	return map[string]bad{
		"nothing": {api.Curve{}, api.ErrKind},
		"base":    with(api.ErrRange, func(c *api.Curve) { c.Base, c.Kind = -1, 0 }),
		"late":    with(api.ErrRange, func(c *api.Curve) { c.Base = api.LastDay + 1 }),
		"kind":    with(api.ErrKind, func(c *api.Curve) { c.Kind, c.Days = 5, nil }),
		"empty":   with(api.ErrNodes, func(c *api.Curve) { c.Days, c.Factors = nil, nil }),
		"order":   with(api.ErrNodes, func(c *api.Curve) { c.Base = c.Days[0] }),
		"nought":  with(api.ErrNodes, func(c *api.Curve) { c.Factors = []float64{0} }),
		"nan":     with(api.ErrNodes, func(c *api.Curve) { c.Factors = []float64{nan} }),
		"lengths": with(api.ErrNodes, func(c *api.Curve) { c.Factors = []float64{0.9, 0.8} }),
		"short":   with(api.ErrRange, func(c *api.Curve) { c.Days = []int{next15 - 1} }),
	}
}

// Promises 22.1 and 22.2: what is wrong with the leg, ahead of what is wrong with the day or the curve.
func TestRefusals(t *testing.T) {
	for name, x := range badLegs() {
		if _, _, e := stepFixed(x.g); e != x.e {
			t.Errorf("%s: the steps tell %v", name, e)
		}
		for _, n := range append(noDays(), 0, jan15+90, next15, api.LastDay) {
			checkRefused(t, x.g, n, given(), x.e)
		}
		for _, y := range badCurves() {
			checkRefused(t, x.g, y.c.Base, y.c, x.e)
		}
	}
	g := leg(api.DEuro, 100, 0.05, halves())
	for _, n := range noDays() {
		checkAccrued(t, g, n, wrong(api.ErrRange))
	}
	for _, x := range badCurves() {
		checkDirty(t, g, x.c, wrong(x.e))
		checkClean(t, g, x.c, wrong(x.e))
	}
}

// Promise 22.2: bits, reckoned elsewhere.
func TestDirtyKnown(t *testing.T) {
	specs := knownSpecs()
	for _, x := range []struct {
		spec, count, kind, base int
		notional, rate          float64
		dirty, clean            float64
	}{
		{0, api.D360, api.IFlat, 45290, 100, 0.05, 0x1.80c780346dc5dp+6, 0x1.80c780346dc5dp+6},
		{0, api.D360, api.IFlat, 45777, 100, 0.05, 0x1.9a0f1efe399ep+6, 0x1.968f1efe399ep+6},
		{0, api.D360, api.IFlat, 46100, 100, 0.05, 0x1.950ce7be1993cp+6, 0x1.93d4042fe0b03p+6},
		{0, api.D360, api.ILinear, 45290, 100, 0.05, 0x1.7c4f743f5d152p+6, 0x1.7c4f743f5d152p+6},
		{0, api.D360, api.ILinear, 45777, 100, 0.05, 0x1.977743d10aacep+6, 0x1.93f743d10aacep+6},
		{0, api.D360, api.ILinear, 46100, 100, 0.05, 0x1.916acce501b12p+6, 0x1.9031e956c8cd9p+6},
		{0, api.D360, api.ICubic, 45290, 100, 0.05, 0x1.7be6c56b9afd7p+6, 0x1.7be6c56b9afd7p+6},
		{0, api.D360, api.ICubic, 45777, 100, 0.05, 0x1.978f80fe30607p+6, 0x1.940f80fe30607p+6},
		{0, api.D360, api.ICubic, 46100, 100, 0.05, 0x1.9106cb7e6b29ap+6, 0x1.8fcde7f032461p+6},
		{0, api.D360, api.ILog, 45290, 100, 0.05, 0x1.7c36f9e4ffe0bp+6, 0x1.7c36f9e4ffe0bp+6},
		{0, api.D360, api.ILog, 45777, 100, 0.05, 0x1.9775a193c8f5bp+6, 0x1.93f5a193c8f5bp+6},
		{0, api.D360, api.ILog, 46100, 100, 0.05, 0x1.915d75709169fp+6, 0x1.902491e258866p+6},
		{1, api.DAct, api.IFlat, 45290, 1e6, 0.0425, 0x1.ebd1d76d1295ap+19, 0x1.ebd1d76d1295ap+19},
		{1, api.DAct, api.IFlat, 45777, 1e6, 0.0425, 0x1.f3a14cf413a37p+19, 0x1.f1cf8c13a36b5p+19},
		{1, api.DAct, api.IFlat, 46100, 1e6, 0.0425, 0x1.0068387e3f1f9p+20, 0x1.f709044623119p+19},
		{1, api.DAct, api.ILinear, 45290, 1e6, 0.0425, 0x1.d910abd95d1cfp+19, 0x1.d910abd95d1cfp+19},
		{1, api.DAct, api.ILinear, 45777, 1e6, 0.0425, 0x1.e75acb45948dcp+19, 0x1.e5890a652455ap+19},
		{1, api.DAct, api.ILinear, 46100, 1e6, 0.0425, 0x1.efc31571888cap+19, 0x1.e5fba8bb2d5f1p+19},
		{1, api.DAct, api.ICubic, 45290, 1e6, 0.0425, 0x1.d8113d9b69c14p+19, 0x1.d8113d9b69c14p+19},
		{1, api.DAct, api.ICubic, 45777, 1e6, 0.0425, 0x1.e8c001be92ab8p+19, 0x1.e6ee40de22736p+19},
		{1, api.DAct, api.ICubic, 46100, 1e6, 0.0425, 0x1.ef54050800facp+19, 0x1.e58c9851a5cd3p+19},
		{1, api.DAct, api.ILog, 45290, 1e6, 0.0425, 0x1.d8e80067a721fp+19, 0x1.d8e80067a721fp+19},
		{1, api.DAct, api.ILog, 45777, 1e6, 0.0425, 0x1.e724606651c7dp+19, 0x1.e5529f85e18fbp+19},
		{1, api.DAct, api.ILog, 46100, 1e6, 0.0425, 0x1.efbc02b1fa36fp+19, 0x1.e5f495fb9f096p+19},
		{2, api.DEuro, api.IFlat, 45290, 12345.678, -0.0075, 0x1.67aef5453700ep+13, 0x1.67aef5453700ep+13},
		{2, api.DEuro, api.IFlat, 45777, 12345.678, -0.0075, 0x1.6b0d61b5baad3p+13, 0x1.6b65dbe9edbaap+13},
		{2, api.DEuro, api.IFlat, 46100, 12345.678, -0.0075, 0x1.81164be3b03e2p+13, 0x1.811c7822dd7aap+13},
		{2, api.DEuro, api.ILinear, 45290, 12345.678, -0.0075, 0x1.5234b92f83e11p+13, 0x1.5234b92f83e11p+13},
		{2, api.DEuro, api.ILinear, 45777, 12345.678, -0.0075, 0x1.6ad0205164b18p+13, 0x1.6b289a8597befp+13},
		{2, api.DEuro, api.ILinear, 46100, 12345.678, -0.0075, 0x1.7c3a88d69fde7p+13, 0x1.7c40b515cd1afp+13},
		{2, api.DEuro, api.ICubic, 45290, 12345.678, -0.0075, 0x1.5231a61cfc43bp+13, 0x1.5231a61cfc43bp+13},
		{2, api.DEuro, api.ICubic, 45777, 12345.678, -0.0075, 0x1.6abf80778482fp+13, 0x1.6b17faabb7906p+13},
		{2, api.DEuro, api.ICubic, 46100, 12345.678, -0.0075, 0x1.7c383f66e9ac3p+13, 0x1.7c3e6ba616e8bp+13},
		{2, api.DEuro, api.ILog, 45290, 12345.678, -0.0075, 0x1.523470d39575cp+13, 0x1.523470d39575cp+13},
		{2, api.DEuro, api.ILog, 45777, 12345.678, -0.0075, 0x1.6acfe2d85a0cap+13, 0x1.6b285d0c8d1a1p+13},
		{2, api.DEuro, api.ILog, 46100, 12345.678, -0.0075, 0x1.7c3a5b80a18d7p+13, 0x1.7c4087bfcec9fp+13},
		{5, api.DOpen, api.IFlat, 45290, -2.5e7, 0.0311, -0x1.8bfd47b82082p+24, -0x1.8bfd47b82082p+24},
		{5, api.DOpen, api.IFlat, 45777, -2.5e7, 0.0311, -0x1.822c04e4d34d3p+24, -0x1.7f28b0938e38ep+24},
		{5, api.DOpen, api.IFlat, 46100, -2.5e7, 0.0311, -0x1.77ffd4e41041p+24, -0x1.764df57659659p+24},
		{5, api.DOpen, api.ILinear, 45290, -2.5e7, 0.0311, -0x1.5e2a7c4030155p+24, -0x1.5e2a7c4030155p+24},
		{5, api.DOpen, api.ILinear, 45777, -2.5e7, 0.0311, -0x1.64f534e26c20ep+24, -0x1.61f1e091270c9p+24},
		{5, api.DOpen, api.ILinear, 46100, -2.5e7, 0.0311, -0x1.651eb11b2e2b4p+24, -0x1.636cd1ad774fdp+24},
		{5, api.DOpen, api.ICubic, 45290, -2.5e7, 0.0311, -0x1.5daec6706788p+24, -0x1.5daec6706788p+24},
		{5, api.DOpen, api.ICubic, 45777, -2.5e7, 0.0311, -0x1.637a5feb4e1dbp+24, -0x1.60770b9a09096p+24},
		{5, api.DOpen, api.ICubic, 46100, -2.5e7, 0.0311, -0x1.6353498f482c2p+24, -0x1.61a16a219150bp+24},
		{5, api.DOpen, api.ILog, 45290, -2.5e7, 0.0311, -0x1.5d5e361219744p+24, -0x1.5d5e361219744p+24},
		{5, api.DOpen, api.ILog, 45777, -2.5e7, 0.0311, -0x1.63be2704e8a55p+24, -0x1.60bad2b3a391p+24},
		{5, api.DOpen, api.ILog, 46100, -2.5e7, 0.0311, -0x1.640a84a7ba8dcp+24, -0x1.6258a53a03b25p+24},
	} {
		b := x.base
		c := api.Curve{Base: b, Kind: x.kind, Days: []int{b + 91, b + 400, b + 550, b + 900, b + 1300, b + 3000}, Factors: []float64{0.9871, 0.9502, 0.9411, 0.8850, 0.8351, 0.7003}}
		g := leg(x.count, x.notional, x.rate, specs[x.spec])
		checkDirty(t, g, c, value(x.dirty))
		checkClean(t, g, c, value(x.clean))
	}
}

// Promise 22.2: each step, of all sorts of legs and curves; Dirty is price.Present of flow.Bond.
func TestDirtySteps(t *testing.T) {
	state := uint64(222)
	seen, apart := map[api.Errno]int{}, 0
	for range 2500 {
		g := someLeg(&state)
		c := curveFor(&state, g.Spec)
		dirty, clean := stepDirty(g, c), stepClean(g, c)
		checkDirty(t, g, c, dirty)
		checkClean(t, g, c, clean)
		seen[dirty.e]++
		if dirty.e == api.OK && !clean.is(dirty) {
			apart++
		}
		if l, e := flow.Bond(g); e == api.OK {
			checkDirty(t, g, c, told(price.Present(l, g.Cur, c)))
		}
	}
	if seen[api.OK] < 1200 || seen[api.ErrRange] < 50 || seen[api.ErrValue] < 20 || apart < 500 {
		t.Errorf("only %v, %d apart", seen, apart)
	}
}

// Promise 22.2: by hand, on a curve of one node.
func TestDirtyHand(t *testing.T) {
	at := func(base int, factor float64) api.Curve {
		return api.Curve{Base: base, Kind: api.IFlat, Days: []int{36000}, Factors: []float64{factor}}
	}
	for _, x := range []struct {
		notional, rate float64
		base           int
		factor         float64
		dirty, clean   answer
	}{
		{100, 0.05, 0, 0.5, value(300), value(300)},
		{100, 0.05, 360, 0.5, value(300), value(295)},
		{100, 0.05, 35640, 0.5, value(300), value(-195)},
		{-100, 0.05, 360, 0.5, value(-300), value(-295)},
		{100, -0.05, 360, 0.5, value(-200), value(-195)},
		{0, 0.05, 360, 0.5, value(0), value(0)},
		{minus, 0.05, 360, 0.5, value(0), value(0)},
		{100, -0.01, 0, 0.5, value(0), value(0)},
		{100, -0.01, 360, 0.5, value(0), value(1)},
		{100, -0.01, 3600, 0.5, value(0), value(10)},
		{-100, -0.01, 3600, 0.5, value(0), value(-10)},
		// What is worth less than the least number is a zero of its sign.
		{-least, 0, 0, 0.25, value(minus), value(0)},
		{-least, minus, 0, 0.25, value(minus), value(minus)},
		{least, 0, 0, 0.25, value(0), value(0)},
		// Too great: what the flows are worth, or only what is left without the interest.
		{0x1p1023, 0x1p-7, 0, 0.5, value(0x1.c8p1022), value(0x1.c8p1022)},
		{0x1p1023, 0x1p-7, 0, 2, wrong(api.ErrValue), wrong(api.ErrValue)},
		{-0x1p1023, 0x1p-7, 0, 2, wrong(api.ErrValue), wrong(api.ErrValue)},
		{0x1p1023, -0x1p-7, 35640, 2, value(0x1.cp1021), value(0x1.36p1023)},
		{0x1p1023, -0x1p-7, 35640, 8, value(0x1.cp1023), wrong(api.ErrValue)},
		{-0x1p1023, -0x1p-7, 35640, 8, value(-0x1.cp1023), wrong(api.ErrValue)},
	} {
		g := leg(api.D360, x.notional, x.rate, once(36000))
		checkDirty(t, g, at(x.base, x.factor), x.dirty)
		checkClean(t, g, at(x.base, x.factor), x.clean)
	}
}

// DOC.md, rules 3 and 8: what is given stays as it was, its spare room too, and is not kept.
func TestMemory(t *testing.T) {
	days, factors := []int{next15, 47482, 1, 2}, []float64{0.9, 0.8, 3, 4}
	rules := append(week().Rules, api.Rule{Kind: 77}, api.Rule{Kind: 78})
	for i, kind := range curves() {
		g := leg(counts()[i+2], 100, 0.05, halves())
		g.Spec.Cal = api.Calendar{Weekend: 96, Rules: slices.Clone(rules)[:1]}
		c := api.Curve{Base: jan15 + 90, Kind: kind, Days: slices.Clone(days)[:2], Factors: slices.Clone(factors)[:2]}
		accrued, dirty, clean := stepAccrued(g, c.Base), stepDirty(g, c), stepClean(g, c)
		for range 2 {
			checkAccrued(t, g, c.Base, accrued)
			checkDirty(t, g, c, dirty)
			checkClean(t, g, c, clean)
		}
		if !slices.Equal(c.Days[:4], days) || !slices.Equal(c.Factors[:4], factors) || !slices.Equal(g.Spec.Cal.Rules[:3], rules) {
			t.Errorf("kind %d: what was given is %v, %v", kind, c, g)
		}
	}
}

// Promise 22.9: whatever is given, every call ends and none panics; beside an error there is nothing.
func TestAnyLeg(t *testing.T) {
	ints := []int{math.MinInt, -1, 0, 1, 2, 3, 4, 5, 6, 7, 8, 9, 30, 31, 1000, 1200, 1201, 45656, api.LastDay - 1, api.LastDay, api.LastDay + 1, math.MaxInt}
	numbers := []float64{0, minus, 1, -1, 0.05, 100, least, greatest, -greatest, inf, -inf, nan}
	calendars := []api.Calendar{{}, {}, week(), {Weekend: 126}, closed(), odd(), tooMany()}
	state := uint64(229)
	any := func() int { return ints[below(&state, len(ints))] }
	small := func(n int) int {
		if below(&state, 12) == 0 {
			return any()
		}
		return below(&state, n)
	}
	number := func() float64 { return numbers[below(&state, len(numbers))] }
	for range 6000 {
		c := api.Curve{Base: any(), Kind: small(5), Days: []int{any(), 60000}, Factors: []float64{0.9, number()}}
		s := api.Spec{Start: any(), End: any(), N: any(), Unit: small(5), Stub: small(5), Roll: small(3), Conv: small(5), Lag: small(31), Cal: calendars[below(&state, len(calendars))]}
		if below(&state, 2) == 0 {
			s.Start, s.End = 45000, 45000+below(&state, 2000)
			c = curveFor(&state, api.Spec{Start: 45000, End: 47000})
		}
		g := api.Leg{Kind: 1 + small(12)/11, Count: small(7), Cur: small(9), Notional: number(), Rate: number(), Spec: s}
		n := any()
		checkAccrued(t, g, n, stepAccrued(g, n))
		checkDirty(t, g, c, stepDirty(g, c))
		checkClean(t, g, c, stepClean(g, c))
	}
}
