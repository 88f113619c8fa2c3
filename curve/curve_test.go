package curve_test

import (
	"math"
	"slices"
	"testing"

	"tenor/api"
	"tenor/curve"
	"tenor/ieee"
)

// checkFactor holds one answer of Factor.
func checkFactor(t *testing.T, c api.Curve, n int, want answer) {
	t.Helper()
	if got := told(curve.Factor(c, n)); !got.is(want) {
		t.Errorf("Factor(%v, %d) is %x, %v, not %x, %v", c, n, got.x, got.e, want.x, want.e)
	}
}

// checkForward holds one answer of Forward.
func checkForward(t *testing.T, c api.Curve, kind int, k api.Calendar, a, b int, want answer) {
	t.Helper()
	if got := told(curve.Forward(c, kind, k, a, b)); !got.is(want) {
		t.Errorf("Forward(%v, %d, %v, %d, %d) is %x, %v, not %x, %v", c, kind, k, a, b, got.x, got.e, want.x, want.e)
	}
}

// checkZero holds one answer of Zero.
func checkZero(t *testing.T, c api.Curve, rates, kind int, k api.Calendar, n int, want answer) {
	t.Helper()
	if got := told(curve.Zero(c, rates, kind, k, n)); !got.is(want) {
		t.Errorf("Zero(%v, %d, %d, %v, %d) is %x, %v, not %x, %v", c, rates, kind, k, n, got.x, got.e, want.x, want.e)
	}
}

// checkLast holds one answer of Last.
func checkLast(t *testing.T, c api.Curve, want int, e api.Errno) {
	t.Helper()
	if n, f := curve.Last(c); n != want || f != e {
		t.Errorf("Last(%v) is %d, %v, not %d, %v", c, n, f, want, e)
	}
}

// checkFalls holds one answer of Falls.
func checkFalls(t *testing.T, c api.Curve, want bool, e api.Errno) {
	t.Helper()
	if falls, f := curve.Falls(c); falls != want || f != e {
		t.Errorf("Falls(%v) is %v, %v, not %v, %v", c, falls, f, want, e)
	}
}

// checkSingle holds one answer of Single.
func checkSingle(t *testing.T, c, want api.Curve, e api.Errno) {
	t.Helper()
	if s, f := curve.Single(c); !sameCurve(s, want) || f != e {
		t.Errorf("Single(%v) is %v, %v, not %v, %v", c, s, f, want, e)
	}
}

// example is the chapter's curve.
func example() api.Curve {
	return api.Curve{Kind: api.ILinear, Days: []int{100, 200}, Factors: []float64{0.5, 0.25}}
}

// market is a curve from 2025-01-01 on.
func market(kind int) api.Curve {
	c := api.Curve{Base: 45656, Kind: kind, Factors: []float64{0.9979, 0.9939, 0.9881, 0.9769, 0.9552, 0.8693, 0.7312, 0.3207}}
	for _, n := range []int{30, 91, 182, 365, 730, 1826, 3652, 10957} {
		c.Days = append(c.Days, c.Base+n)
	}
	return c
}

// long is a curve of n nodes.
func long(kind, n int) api.Curve {
	c := api.Curve{Base: 7, Kind: kind}
	for i := range n {
		c.Days, c.Factors = append(c.Days, 10+3*i), append(c.Factors, 1/float64(i+2))
	}
	return c
}

// The chapter's examples.
func TestExamples(t *testing.T) {
	c := example()
	for n, want := range map[int]float64{0: 1, 50: 0.75, 100: 0.5, 200: 0.25} {
		checkFactor(t, c, n, answer{want, api.OK})
	}
	checkFactor(t, c, 201, wrong(api.ErrRange))
	checkFactor(t, c, -1, wrong(api.ErrRange))
	years := 100.0 / 360
	checkForward(t, c, api.D360, api.Calendar{}, 100, 200, answer{1 / years, api.OK})
	checkFalls(t, c, true, api.OK)
	checkLast(t, c, 200, api.OK)
}

// Promise 11.1: curves that may be.
func TestCheckTakes(t *testing.T) {
	for _, kind := range kinds() {
		for _, c := range []api.Curve{
			market(kind), long(kind, 1), long(kind, 2), long(kind, 254), long(kind, 255),
			{Kind: kind, Days: []int{1}, Factors: []float64{1}},
			{Kind: kind, Days: []int{api.LastDay}, Factors: []float64{least}},
			{Base: api.LastDay - 1, Kind: kind, Days: []int{api.LastDay}, Factors: []float64{greatest}},
			{Base: 5, Kind: kind, Days: []int{6, 7, 8}, Factors: []float64{2, 2, 3}},
		} {
			if e := curve.Check(c); e != api.OK {
				t.Errorf("Check(%v) is %v", c, e)
			}
			checkFactor(t, c, c.Base, answer{1, api.OK})
			checkLast(t, c, c.Days[len(c.Days)-1], api.OK)
		}
	}
}

// refused holds that every call tells the error first, whatever else is asked.
func refused(t *testing.T, c api.Curve, want api.Errno) {
	t.Helper()
	if e := curve.Check(c); e != want {
		t.Errorf("Check(%v) is %v, not %v", c, e, want)
	}
	checkLast(t, c, 0, want)
	checkFalls(t, c, false, want)
	checkSingle(t, c, api.Curve{}, want)
	for _, n := range []int{math.MinInt, -1, 0, 7, 10, 12, api.LastDay + 1, math.MaxInt} {
		checkFactor(t, c, n, wrong(want))
		for _, kind := range []int{0, api.D360, api.DOpen} {
			checkForward(t, c, kind, closed(), n, 8, wrong(want))
			checkForward(t, c, kind, week(), 8, n, wrong(want))
			checkZero(t, c, 0, kind, closed(), n, wrong(want))
			checkZero(t, c, api.KCont, kind, week(), n, wrong(want))
		}
	}
}

// badNodes is curves of a base and a kind whose nodes may not be.
func badNodes(base, kind int) []api.Curve {
	bad := []api.Curve{
		{},
		{Days: []int{}, Factors: []float64{}},
		{Days: []int{50}},
		{Factors: []float64{0.5}},
		{Days: []int{50, 60}, Factors: []float64{0.5}},
		{Days: []int{50, 60}, Factors: []float64{0.5, 0.4, 0.3}},
		long(kind, 256), long(kind, 257), long(kind, 1000),
	}
	for _, days := range [][]int{
		{7}, {6}, {0}, {-1}, {math.MinInt}, {api.LastDay + 1}, {math.MaxInt}, {7, 8}, {8, 8}, {9, 8}, {8, 7}, {8, 9, 9}, {8, 12, 10}, {8, -1, 9}, {-1, 8, 9},
		{8, 9, api.LastDay + 1}, {8, 9, math.MaxInt}, {math.MaxInt, 8, 9}, {math.MinInt, 8, 9},
	} {
		bad = append(bad, api.Curve{Days: days, Factors: []float64{0.5, 0.4, 0.3}[:len(days)]})
	}
	for _, f := range []float64{nan, inf, -inf, 0, nought, -least, -0.5, -greatest} {
		for place := range 3 {
			c := long(kind, 3)
			c.Factors[place] = f
			bad = append(bad, c)
		}
		bad = append(bad, api.Curve{Days: []int{50}, Factors: []float64{f}})
	}
	// Beyond the bound by the days alone, or by the factors alone.
	c := long(kind, 256)
	c.Factors = c.Factors[:255]
	bad = append(bad, c)
	c = long(kind, 256)
	c.Days = c.Days[:255]
	bad = append(bad, c)
	for i := range bad {
		bad[i].Base, bad[i].Kind = base, kind
	}
	return bad
}

// Promise 11.1: curves that may not be, and which error is told first.
func TestCheckRefuses(t *testing.T) {
	noDays := []int{math.MinInt, -1, api.LastDay + 1, math.MaxInt}
	for _, kind := range kinds() {
		for _, c := range badNodes(7, kind) {
			refused(t, c, api.ErrNodes)
		}
		refused(t, api.Curve{Base: api.LastDay, Kind: kind, Days: []int{api.LastDay}, Factors: []float64{0.5}}, api.ErrNodes)
		refused(t, api.Curve{Base: api.LastDay, Kind: kind, Days: []int{api.LastDay + 1}, Factors: []float64{0.5}}, api.ErrNodes)
		for _, base := range noDays {
			c := long(kind, 3)
			c.Base = base
			refused(t, c, api.ErrRange)
		}
	}
	for _, kind := range noKinds() {
		refused(t, long(kind, 3), api.ErrKind)
		for _, c := range badNodes(7, kind) {
			refused(t, c, api.ErrKind)
		}
		for _, base := range noDays {
			c := long(kind, 3)
			c.Base = base
			refused(t, c, api.ErrRange)
			refused(t, badNodes(base, kind)[0], api.ErrRange)
		}
	}
}

// Promise 11.2: the bits, reckoned elsewhere: IFlat, ILinear, ICubic, ILog.
func TestFactorKnown(t *testing.T) {
	for _, x := range []struct {
		n    int
		want [4]float64
	}{
		{0, [4]float64{1, 1, 1, 1}},
		{1, [4]float64{0x1p+0, 0x1.fff6d330941c8p-1, 0x1.fff6d0b804c89p-1, 0x1.fff6d0cd6c151p-1}},
		{17, [4]float64{0x1p+0, 0x1.ff640639d5e4ap-1, 0x1.ff62c61c9cf36p-1, 0x1.ff63f40a2497dp-1}},
		{30, [4]float64{0x1.feecbfb15b574p-1, 0x1.feecbfb15b574p-1, 0x1.feecbfb15b574p-1, 0x1.feecbfb15b574p-1}},
		{31, [4]float64{0x1.feecbfb15b574p-1, 0x1.fee42766f5134p-1, 0x1.fee3e1660af3bp-1, 0x1.fee4230d97c41p-1}},
		{60, [4]float64{0x1.feecbfb15b574p-1, 0x1.fdeae6f95f5eap-1, 0x1.fde7cff71c058p-1, 0x1.fdeaa39b348cbp-1}},
		{100, [4]float64{0x1.fce075f6fd22p-1, 0x1.fc954641f587dp-1, 0x1.fc944561529d9p-1, 0x1.fc95137691922p-1}},
		{200, [4]float64{0x1.f9e83e425aee6p-1, 0x1.f957d96071aadp-1, 0x1.f955485130ec8p-1, 0x1.f9571b1e3f9f2p-1}},
		{366, [4]float64{0x1.f42c3c9eecbfbp-1, 0x1.f42471bda9aa5p-1, 0x1.f42455b60d7e2p-1, 0x1.f4245b502202bp-1}},
		{500, [4]float64{0x1.f42c3c9eecbfbp-1, 0x1.f0103fd48c79ep-1, 0x1.f02bda8b9ba4ep-1, 0x1.f008cbf17fd5bp-1}},
		{1000, [4]float64{0x1.e90ff97247454p-1, 0x1.de3a4b74c28ap-1, 0x1.df096af1f94cfp-1, 0x1.ddd7086600234p-1}},
		{2500, [4]float64{0x1.bd14e3bcd35a8p-1, 0x1.a2fb900605bd6p-1, 0x1.a1e6c157d9ca8p-1, 0x1.a18c68ff1c9b8p-1}},
		{3653, [4]float64{0x1.765fd8adab9f5p-1, 0x1.76587b1b8ee2ap-1, 0x1.7657652f9b919p-1, 0x1.765508b1396d2p-1}},
		{7000, [4]float64{0x1.765fd8adab9f5p-1, 0x1.160c1dcdd801p-1, 0x1.11e153d92487ep-1, 0x1.0099c27e3b5a7p-1}},
		{10956, [4]float64{0x1.765fd8adab9f5p-1, 0x1.48744fd38886ep-2, 0x1.48744fc00d282p-2, 0x1.486f1100e399cp-2}},
		{10957, [4]float64{0x1.486594af4f0d8p-2, 0x1.486594af4f0d8p-2, 0x1.486594af4f0d8p-2, 0x1.486594af4f0d8p-2}},
	} {
		for i, kind := range kinds() {
			c := market(kind)
			checkFactor(t, c, c.Base+x.n, answer{x.want[i], api.OK})
		}
	}
}

// Promise 11.2.
func TestFactorSteps(t *testing.T) {
	state := uint64(112)
	for _, kind := range kinds() {
		between := 0
		for range 3000 {
			c := someCurve(&state, kind)
			n := someDay(&state, c)
			want := stepFactor(c, n)
			checkFactor(t, c, n, want)
			checkLast(t, c, slices.Max(c.Days), api.OK)
			if want.e == api.OK && n != c.Base && !slices.Contains(c.Days, n) {
				between++
			}
		}
		if between < 1000 {
			t.Errorf("kind %d: only %d days between nodes", kind, between)
		}
		full := long(kind, 255)
		for n := full.Base; n <= 772; n++ {
			checkFactor(t, full, n, stepFactor(full, n))
		}
	}
}

// Promise 11.2: nothing is told beyond the curve.
func TestFactorBeyond(t *testing.T) {
	for _, kind := range kinds() {
		c := market(kind)
		for _, n := range []int{math.MinInt, -1, 0, c.Base - 1, c.Base + 10958, api.LastDay, api.LastDay + 1, math.MaxInt} {
			checkFactor(t, c, n, wrong(api.ErrRange))
		}
		whole := api.Curve{Kind: kind, Days: []int{api.LastDay}, Factors: []float64{0.5}}
		checkFactor(t, whole, 0, answer{1, api.OK})
		checkFactor(t, whole, api.LastDay, answer{0.5, api.OK})
		checkFactor(t, whole, -1, wrong(api.ErrRange))
		checkFactor(t, whole, api.LastDay+1, wrong(api.ErrRange))
	}
}

// Promise 11.3: the bits, reckoned elsewhere.
func TestForwardKnown(t *testing.T) {
	for _, x := range []struct {
		kind, days, a, b int
		want             float64
	}{
		{api.IFlat, api.D360, 0, 30, 0x1.9dbee3f5d76p-6},
		{api.ILinear, api.D360, 0, 91, 0x1.8dcd99b382facp-6},
		{api.ICubic, api.D360, 59, 90, 0x1.80bca715ee495p-6},
		{api.ILog, api.D360, 30, 121, 0x1.8289d94a3f017p-6},
		{api.IFlat, api.D365, 182, 547, 0x1.77ae07997c18p-7},
		{api.ILinear, api.D365, 365, 730, 0x1.74352c2ae18cp-6},
		{api.ICubic, api.D365, 1000, 3000, 0x1.307f866879abep-5},
		{api.ILog, api.D365, 3652, 10957, 0x1.05f7957eebb7cp-4},
		{api.IFlat, api.DAct, 182, 547, 0x1.77ae07997c18p-7},
		{api.ICubic, api.DAct, 1000, 3000, 0x1.30cd8df95d594p-5},
		{api.ILog, api.DAct, 3652, 10957, 0x1.0625849707955p-4},
		{api.IFlat, api.DBond, 0, 30, 0x1.9dbee3f5d76p-6},
		{api.ICubic, api.DBond, 59, 90, 0x1.8d8fbdb8cb9p-6},
		{api.ILog, api.DBond, 30, 121, 0x1.7e5643732da01p-6},
		{api.IFlat, api.DEuro, 0, 30, 0x1.ac034418cd258p-6},
		{api.ILinear, api.DEuro, 0, 91, 0x1.8dcd99b382facp-6},
		{api.IFlat, api.DOpen, 0, 30, 0x1.8af0653c1f0a3p-6},
		{api.ILog, api.DOpen, 30, 121, 0x1.7acec5958faa5p-6},
		{api.ILinear, api.DOpen, 365, 730, 0x1.675f7a17bf495p-6},
		{api.ICubic, api.DOpen, 1000, 3000, 0x1.263b6ccb3569bp-5},
	} {
		c := market(x.kind)
		checkForward(t, c, x.days, week(), c.Base+x.a, c.Base+x.b, answer{x.want, api.OK})
	}
}

// Promise 11.3.
func TestForwardSteps(t *testing.T) {
	state := uint64(113)
	for _, kind := range kinds() {
		for _, days := range counts() {
			rates := 0
			for range 400 {
				c := someCurve(&state, kind)
				a, b := someDay(&state, c), someDay(&state, c)
				if below(&state, 4) > 0 {
					a, b = min(a, b), max(a, b)
				}
				want := stepForward(c, days, week(), a, b)
				checkForward(t, c, days, week(), a, b, want)
				if want.e == api.OK && want.x != 0 {
					rates++
				}
			}
			if rates < 100 {
				t.Errorf("kind %d, count %d: only %d rates", kind, days, rates)
			}
		}
	}
}

// Promise 11.3: the errors in their order, and a time that is not above 0.
func TestForwardRefusals(t *testing.T) {
	for _, kind := range kinds() {
		c := market(kind)
		in, on := c.Base+40, c.Base+50
		for _, out := range []int{math.MinInt, -1, c.Base - 1, c.Base + 10958, math.MaxInt} {
			for _, days := range []int{0, api.D360, api.DOpen, 7} {
				for _, k := range []api.Calendar{week(), closed(), tooMany()} {
					checkForward(t, c, days, k, out, in, wrong(api.ErrRange))
					checkForward(t, c, days, k, in, out, wrong(api.ErrRange))
					checkForward(t, c, days, k, out, out, wrong(api.ErrRange))
				}
			}
		}
		for _, days := range []int{math.MinInt, -1, 0, 7, 1<<32 + api.D360, math.MaxInt} {
			checkForward(t, c, days, closed(), in, on, wrong(api.ErrCount))
			checkForward(t, c, days, week(), in, in, wrong(api.ErrCount))
		}
		checkForward(t, c, api.DOpen, closed(), in, in, wrong(api.ErrCal))
		checkForward(t, c, api.DOpen, closed(), in, on, wrong(api.ErrCal))
		checkForward(t, c, api.DOpen, tooMany(), in, on, wrong(api.ErrLong))
		checkForward(t, c, api.D365, tooMany(), in, on, stepForward(c, api.D365, week(), in, on))
		for _, days := range counts() {
			checkForward(t, c, days, week(), in, in, wrong(api.ErrValue))
			checkForward(t, c, days, week(), on, in, wrong(api.ErrValue))
			checkForward(t, c, days, week(), c.Base+91, c.Base, wrong(api.ErrValue))
		}
		// No day is open from Saturday, 2025-01-04, to Monday.
		checkForward(t, c, api.DOpen, week(), c.Base+3, c.Base+5, wrong(api.ErrValue))
	}
	steep := api.Curve{Kind: api.IFlat, Days: []int{10, 20}, Factors: []float64{greatest, least}}
	checkForward(t, steep, api.D365, api.Calendar{}, 10, 20, wrong(api.ErrValue))
	checkForward(t, steep, api.D365, api.Calendar{}, 0, 20, wrong(api.ErrValue))
	checkForward(t, steep, api.D365, api.Calendar{}, 0, 10, answer{-36.5, api.OK})
}

// Promise 11.4: the bits, reckoned elsewhere.
func TestZeroKnown(t *testing.T) {
	for _, x := range []struct {
		kind, rates, days, n int
		want                 float64
	}{
		{api.ILinear, api.KSimple, api.D360, 1, 0x1.9ce7dc2d8fep-6},
		{api.ICubic, api.KSimple, api.D365, 30, 0x1.a37dfc75b3416p-6},
		{api.ILog, api.KSimple, api.DAct, 59, 0x1.976f5e0a921f5p-6},
		{api.ILinear, api.KSimple, api.DBond, 90, 0x1.8ddf8309513p-6},
		{api.ICubic, api.KSimple, api.DEuro, 365, 0x1.836b77d647f4p-6},
		{api.ILog, api.KSimple, api.DOpen, 1000, 0x1.9d635d0fcb096p-6},
		{api.ICubic, api.KSimple, api.D365, 9999, 0x1.f55221064aa47p-5},
		{api.ICubic, api.KAnnual, api.D365, 1, 0x1.a878bd4d2da4p-6},
		{api.ILinear, api.KAnnual, api.DBond, 59, 0x1.8ef22e32e334p-6},
		{api.ICubic, api.KAnnual, api.DEuro, 90, 0x1.919303cf1aa8p-6},
		{api.ILog, api.KAnnual, api.DAct, 9999, 0x1.39d120598bb8p-5},
		{api.ICubic, api.KSemi, api.DEuro, 59, 0x1.8eed37c6b648p-6},
		{api.ILinear, api.KSemi, api.D360, 365, 0x1.7bd982d197c8p-6},
		{api.ILog, api.KSemi, api.DAct, 3652, 0x1.027bba6141p-5},
		{api.ICubic, api.KQuarter, api.D365, 365, 0x1.8007f29879ap-6},
		{api.ILog, api.KQuarter, api.DAct, 1000, 0x1.9e39dfd6ed2p-6},
		{api.ILinear, api.KQuarter, api.DBond, 3652, 0x1.0178c6a96608p-5},
		{api.ILinear, api.KMonth, api.D360, 59, 0x1.91418af333ep-6},
		{api.ICubic, api.KMonth, api.D365, 90, 0x1.92a7621f46cp-6},
		{api.ILog, api.KMonth, api.DOpen, 9999, 0x1.29e30cb6176p-5},
		{api.ILog, api.KCont, api.DOpen, 1, 0x1.215151822220bp-6},
		{api.ICubic, api.KCont, api.D365, 59, 0x1.98d6c9d97c8cbp-6},
		{api.ILog, api.KCont, api.DAct, 90, 0x1.92302b94bd56p-6},
		{api.ILinear, api.KCont, api.D360, 9999, 0x1.21a76031a1e94p-5},
	} {
		c := market(x.kind)
		checkZero(t, c, x.rates, x.days, week(), c.Base+x.n, answer{x.want, api.OK})
	}
}

// Promise 11.4.
func TestZeroSteps(t *testing.T) {
	state := uint64(114)
	for _, kind := range kinds() {
		for _, rates := range yields() {
			told := 0
			for range 400 {
				c := someCurve(&state, kind)
				n, days := someDay(&state, c), counts()[below(&state, 6)]
				want := stepZero(c, rates, days, week(), n)
				checkZero(t, c, rates, days, week(), n, want)
				if want.e == api.OK && want.x != 0 {
					told++
				}
			}
			if told < 100 {
				t.Errorf("kind %d, rates %d: only %d rates", kind, rates, told)
			}
		}
	}
}

// Promise 11.4: the errors in their order, and a time that is not above 0.
func TestZeroRefusals(t *testing.T) {
	for _, kind := range kinds() {
		c := market(kind)
		in := c.Base + 40
		for _, out := range []int{math.MinInt, -1, c.Base - 1, c.Base + 10958, math.MaxInt} {
			for _, days := range []int{0, api.D360, api.DOpen} {
				checkZero(t, c, 0, days, closed(), out, wrong(api.ErrRange))
				checkZero(t, c, api.KCont, days, week(), out, wrong(api.ErrRange))
			}
		}
		for _, rates := range append(yields(), 0, 7, math.MaxInt, math.MinInt) {
			for _, n := range []int{c.Base, in} {
				checkZero(t, c, rates, 0, closed(), n, wrong(api.ErrCount))
				checkZero(t, c, rates, 7, week(), n, wrong(api.ErrCount))
				checkZero(t, c, rates, api.DOpen, closed(), n, wrong(api.ErrCal))
				checkZero(t, c, rates, api.DOpen, tooMany(), n, wrong(api.ErrLong))
			}
		}
		for _, days := range counts() {
			for _, rates := range []int{math.MinInt, -1, 0, 7, 1<<32 + api.KSimple, math.MaxInt} {
				checkZero(t, c, rates, days, week(), in, wrong(api.ErrKind))
				checkZero(t, c, rates, days, week(), c.Base, wrong(api.ErrKind))
			}
			for _, rates := range yields() {
				checkZero(t, c, rates, days, week(), c.Base, wrong(api.ErrValue))
			}
		}
		checkZero(t, c, api.KCont, api.D365, tooMany(), in, stepZero(c, api.KCont, api.D365, week(), in))
	}
	weekend := api.Curve{Base: 5, Kind: api.ILinear, Days: []int{30}, Factors: []float64{0.9}}
	checkZero(t, weekend, api.KSimple, api.DOpen, week(), 7, wrong(api.ErrValue))
	low := api.Curve{Kind: api.ILinear, Days: []int{30}, Factors: []float64{least}}
	checkZero(t, low, api.KSimple, api.D365, api.Calendar{}, 30, wrong(api.ErrValue))
}

// Promise 11.5: Falls.
func TestFalls(t *testing.T) {
	for _, x := range []struct {
		factors []float64
		want    bool
	}{
		{[]float64{1}, true},
		{[]float64{ieee.Down(1)}, true},
		{[]float64{ieee.Up(1)}, false},
		{[]float64{2, 1}, false},
		{[]float64{least}, true},
		{[]float64{1, 1, 1}, true},
		{[]float64{0.5, 0.5, 0.25}, true},
		{[]float64{0.5, ieee.Up(0.5)}, false},
		{[]float64{0.5, ieee.Up(0.5), 0.25}, false},
		{[]float64{0.5, 0.25, 0.375}, false},
		{[]float64{0.5, 0.25, 0.125, ieee.Up(0.125)}, false},
		{[]float64{0.9, 2 * least, least}, true},
		{[]float64{0.9, least, 2 * least}, false},
		{[]float64{greatest}, false},
	} {
		for _, kind := range kinds() {
			c := long(kind, len(x.factors))
			c.Factors = x.factors
			checkFalls(t, c, x.want, api.OK)
		}
	}
	for place := range 255 {
		c := long(api.IFlat, 255)
		checkFalls(t, c, true, api.OK)
		c.Factors[place] = 1 + c.Factors[place]
		checkFalls(t, c, false, api.OK)
	}
}

// Promise 11.5: Single, at the edges of binary32.
func TestSingle(t *testing.T) {
	const largest = 0x1.fffffep127
	for _, x := range []struct{ f, want float64 }{
		{1, 1},
		{0.1, 0x1.99999ap-4},
		{0.5 + 0x1p-40, 0.5},
		{1 + 0x1p-24, 1}, // half-way: the even one
		{1 + 0x1p-24 + 0x1p-52, 1 + 0x1p-23},
		{1 + 0x3p-24, 1 + 0x1p-22},
		{1 - 0x1p-25, 1},
		{1 - 0x1p-24, 1 - 0x1p-24},
		{largest, largest},
		{largest + 0x1p102, largest},
		{ieee.Down(largest + 0x1p103), largest},
		{0x1p-126, 0x1p-126},
		{0x1p-149, 0x1p-149},
		{ieee.Up(0x1p-150), 0x1p-149},
		{0x3p-150, 0x1p-148},
		{0x1.fffffffffffffp-127, 0x1p-126},
	} {
		for place := range 3 {
			c := long(api.ILog, 3)
			c.Factors = []float64{0.5, 0.5, 0.5}
			want := copied(c)
			c.Factors[place], want.Factors[place] = x.f, x.want
			checkSingle(t, c, want, api.OK)
		}
	}
	for _, f := range []float64{largest + 0x1p103, 0x1p128, greatest, 0x1p-150, ieee.Down(0x1p-150), 1e-300, least} {
		for place := range 3 {
			c := long(api.IFlat, 3)
			c.Factors[place] = f
			checkSingle(t, c, api.Curve{}, api.ErrValue)
		}
	}
}

// Promises 11.5, 11.7: Single of Single is Single, and Falls stays where it was true.
func TestSingleSteps(t *testing.T) {
	state := uint64(115)
	fell, rounded := 0, 0
	for _, kind := range kinds() {
		for range 3000 {
			c := someCurve(&state, kind)
			want := copied(c)
			for i, f := range c.Factors {
				want.Factors[i] = single(f)
			}
			if slices.Contains(want.Factors, 0) || slices.Contains(want.Factors, inf) {
				checkSingle(t, c, api.Curve{}, api.ErrValue)
				continue
			}
			checkSingle(t, c, want, api.OK)
			checkSingle(t, want, want, api.OK)
			if !sameCurve(c, want) {
				rounded++
			}
			if falls, _ := curve.Falls(c); falls {
				fell++
				checkFalls(t, want, true, api.OK)
			}
		}
	}
	if fell < 2000 || rounded < 4000 {
		t.Errorf("only %d fell, %d were rounded", fell, rounded)
	}
	full := long(api.ICubic, 255)
	want := copied(full)
	for i, f := range full.Factors {
		want.Factors[i] = single(f)
	}
	checkSingle(t, full, want, api.OK)
}

// Promises 11.6, W5: at a node its factor, at the base 1, to the bit.
func TestNodesAreTold(t *testing.T) {
	state := uint64(116)
	for _, kind := range kinds() {
		for range 2000 {
			c := someCurve(&state, kind)
			checkFactor(t, c, c.Base, answer{1, api.OK})
			for i, n := range c.Days {
				checkFactor(t, c, n, answer{c.Factors[i], api.OK})
			}
		}
		full := long(kind, 255)
		for i, n := range full.Days {
			checkFactor(t, full, n, answer{full.Factors[i], api.OK})
		}
	}
}

// Promises 11.6, W4: no factor outside of those of the two nodes that it lies between, the base being one.
func TestFactorsStayBetween(t *testing.T) {
	state := uint64(117)
	for _, kind := range kinds() {
		for range 5000 {
			c := someCurve(&state, kind)
			n := c.Base + below(&state, c.Days[len(c.Days)-1]-c.Base)
			k, _ := slices.BinarySearch(c.Days, n)
			ahead := 1.0
			if k > 0 {
				ahead = c.Factors[k-1]
			}
			lo, hi := min(ahead, c.Factors[k]), max(ahead, c.Factors[k])
			if f, e := curve.Factor(c, n); e != api.OK || !(f >= lo && f <= hi) {
				t.Fatalf("Factor(%v, %d) is %x, %v", c, n, f, e)
			}
		}
	}
}

// Promises 11.6, W4: a curve that falls has factors that never rise, from each day to the next, but under ILog.
func TestFactorsNeverRise(t *testing.T) {
	state := uint64(118)
	steps := 0
	for _, kind := range []int{api.IFlat, api.ILinear, api.ICubic} {
		for range 400 {
			c := someCurve(&state, kind)
			fall(&c)
			checkFalls(t, c, true, api.OK)
			end := c.Days[len(c.Days)-1]
			at := c.Base + below(&state, 1+max(0, end-c.Base-300))
			ahead := 1.0
			for n := at; n <= min(at+300, end); n++ {
				f, e := curve.Factor(c, n)
				if e != api.OK || f > ahead {
					t.Fatalf("Factor(%v, %d) is %x, %v, behind %x", c, n, f, e, ahead)
				}
				if f < ahead {
					steps++
				}
				ahead = f
			}
		}
	}
	if steps < 10000 {
		t.Errorf("only %d steps", steps)
	}
}

// roomy is the curve with spare room behind its lists, and the whole of these lists.
func roomy(c api.Curve) (api.Curve, []int, []float64) {
	days := append(slices.Clone(c.Days), -7, -8, -9)
	factors := append(slices.Clone(c.Factors), -7, -8, -9)
	c.Days, c.Factors = days[:len(c.Days)], factors[:len(c.Factors)]
	return c, days, factors
}

// Promise 11.8: what is handed in stays as it was, and curves that are told are new memory.
func TestCurvesAreNew(t *testing.T) {
	for _, kind := range kinds() {
		c, days, factors := roomy(market(kind))
		wasDays, wasFactors := slices.Clone(days), slices.Clone(factors)
		curve.Check(c)
		curve.Factor(c, c.Base+50)
		curve.Last(c)
		curve.Forward(c, api.D365, week(), c.Base, c.Base+50)
		curve.Zero(c, api.KCont, api.D365, week(), c.Base+50)
		curve.Falls(c)
		for _, from := range []api.Curve{c, single32(t, c)} {
			s, again := single32(t, from), single32(t, from)
			for i := range cap(s.Days) {
				s.Days[:cap(s.Days)][i] = -1
			}
			for i := range cap(s.Factors) {
				s.Factors[:cap(s.Factors)][i] = nan
			}
			if !sameCurve(again, single32(t, from)) || again.Days[0] != c.Days[0] {
				t.Errorf("kind %d: curves share memory", kind)
			}
		}
		if !slices.Equal(days, wasDays) || !slices.Equal(factors, wasFactors) {
			t.Errorf("kind %d: the curve was changed: %v, %v", kind, days, factors)
		}
	}
}

// single32 is Single of a curve that has one.
func single32(t *testing.T, c api.Curve) api.Curve {
	t.Helper()
	s, e := curve.Single(c)
	if e != api.OK {
		t.Fatalf("Single(%v) is %v", c, e)
	}
	return s
}

// someWrong is a curve of any numbers, mostly one that may not be.
func someWrong(state *uint64) api.Curve {
	c := someCurve(state, 1+below(state, 4))
	switch below(state, 8) {
	case 0:
		c.Kind = int(scatter(state))
	case 1:
		c.Days[below(state, len(c.Days))] = int(scatter(state))
	case 2:
		c.Factors[below(state, len(c.Factors))] = math.Float64frombits(scatter(state))
	case 3:
		c.Days = c.Days[:below(state, len(c.Days)+1)]
	case 4:
		c.Factors = c.Factors[:below(state, len(c.Factors)+1)]
	case 5:
		c.Base = int(scatter(state))
	}
	return c
}

// someInt is a small whole number or any.
func someInt(state *uint64) int {
	if scatter(state)%4 == 0 {
		return int(scatter(state))
	}
	return below(state, 9) - 1
}

// Promise 11.8: whatever they are given, the calls end, and tell a number or an error, the same each time.
func TestEveryCallEnds(t *testing.T) {
	state := uint64(119)
	good := 0
	for range 20000 {
		c := someWrong(&state)
		k := []api.Calendar{{}, week(), closed(), tooMany()}[below(&state, 4)]
		a, b, kind, rates := c.Base+someInt(&state), c.Base+someInt(&state), someInt(&state), someInt(&state)
		e := curve.Check(c)
		if e == api.OK {
			good++
		}
		for i, call := range []func() answer{
			func() answer { return told(curve.Factor(c, a)) },
			func() answer { n, e := curve.Last(c); return answer{float64(n), e} },
			func() answer { return told(curve.Forward(c, kind, k, a, b)) },
			func() answer { return told(curve.Zero(c, rates, kind, k, a)) },
			func() answer { _, e := curve.Falls(c); return answer{0, e} },
			func() answer { s, e := curve.Single(c); return answer{float64(len(s.Days)), e} },
		} {
			got, again := call(), call()
			if !got.is(again) || e != api.OK && !got.is(wrong(e)) || got.e != api.OK && got.x != 0 || math.IsNaN(got.x) || math.IsInf(got.x, 0) {
				t.Fatalf("call %d of %v, %d, %d, %d, %d: %v and %v", i, c, a, b, kind, rates, got, again)
			}
		}
	}
	if good < 4000 || good > 16000 {
		t.Errorf("%d curves may be", good)
	}
}
