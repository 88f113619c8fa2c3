package flow_test

import (
	"math"
	"slices"
	"testing"

	"tenor/api"
	"tenor/curve"
	"tenor/flow"
	"tenor/sched"
)

// checkFixed holds one answer of Fixed, and Bond's of the same leg.
func checkFixed(t *testing.T, g api.Leg, want list) {
	t.Helper()
	if got := told(flow.Fixed(g)); !got.is(want) {
		t.Errorf("Fixed(%v) is %v, not %v", g, got, want)
	}
	if want.e == api.OK {
		want.l = append(slices.Clone(want.l), f(want.l[len(want.l)-1].Day, g.Notional, g.Cur))
	}
	if got := told(flow.Bond(g)); !got.is(want) {
		t.Errorf("Bond(%v) is %v, not %v", g, got, want)
	}
}

// checkFloat holds one answer of Float.
func checkFloat(t *testing.T, g api.Leg, c api.Curve, want list) {
	t.Helper()
	if got := told(flow.Float(g, c)); !got.is(want) {
		t.Errorf("Float(%v, %v) is %v, not %v", g, c, got, want)
	}
}

// leg is a leg in the currency 1.
func leg(kind, count int, notional, rate float64, s api.Spec) api.Leg {
	return api.Leg{Kind: kind, Count: count, Cur: 1, Notional: notional, Rate: rate, Spec: s}
}

// The days of some dates of 2025 and 2026.
const (
	jan15  = 45670 // 2025-01-15
	jul15  = 45851 // 2025-07-15
	next15 = 46035 // 2026-01-15
)

// halves is a year from 2025-01-15 on, cut in two.
func halves() api.Spec {
	return api.Spec{Start: jan15, End: next15, N: 6, Unit: api.UMonth, Stub: api.SShortFirst}
}

// knownSpecs is schedules of each unit, stub, roll and convention.
func knownSpecs() []api.Spec {
	return []api.Spec{
		{Start: 45670, End: 46263, N: 3, Unit: api.UMonth, Stub: api.SShortFirst, Conv: api.CModFollow, Lag: 2, Cal: week()},
		{Start: 45349, End: 46475, N: 6, Unit: api.UMonth, Stub: api.SLongFirst, Roll: api.REnd, Conv: api.CFollow, Cal: week()},
		{Start: 45733, End: 46188, N: 3, Unit: api.UMonth, Stub: api.SShortLast, Roll: api.RThird, Lag: 1, Cal: week()},
		{Start: 45748, End: 45826, N: 2, Unit: api.UWeek, Stub: api.SLongLast, Conv: api.CModPrecede, Cal: week()},
		{Start: 46019, End: 46071, N: 17, Unit: api.UDay, Stub: api.SShortFirst, Conv: api.CPrecede},
		{Start: 45320, End: 47967, N: 1, Unit: api.UYear, Stub: api.SShortLast, Conv: api.CModFollow, Lag: 3, Cal: week()},
	}
}

// Promises 14.2 and 14.4: days and bits, reckoned elsewhere.
func TestFixedKnown(t *testing.T) {
	specs := knownSpecs()
	for _, x := range []struct {
		spec, count    int
		notional, rate float64
		want           []api.Flow
	}{
		{0, api.D360, 100.0, 0.05, []api.Flow{pay(45718, 0x1.38e38e38e38e3p-1), pay(45809, 0x1.438e38e38e38ep+0), pay(45900, 0x1.438e38e38e38ep+0), pay(45991, 0x1.438e38e38e38ep+0), pay(46082, 0x1.438e38e38e38ep+0), pay(46173, 0x1.438e38e38e38ep+0), pay(46265, 0x1.4e38e38e38e39p+0)}},
		{0, api.DBond, 1000000.0, 0.0425, []api.Flow{pay(45718, 0x1.3d4638e38e38ep+12), pay(45809, 0x1.5368e38e38e38p+13), pay(45900, 0x1.48578e38e38e4p+13), pay(45991, 0x1.48578e38e38e4p+13), pay(46082, 0x1.48578e38e38e4p+13), pay(46173, 0x1.5368e38e38e38p+13), pay(46265, 0x1.5368e38e38e38p+13)}},
		{1, api.DAct, 1000000.0, 0.0425, []api.Flow{pay(45563, 0x1.8446e837f4cfp+14), pay(45745, 0x1.4aa8c6aee1eeep+14), pay(45928, 0x1.4cf0e070381c1p+14), pay(46110, 0x1.4b1f1f8fc7e3fp+14), pay(46293, 0x1.4cf0e070381c1p+14), pay(46475, 0x1.4b1f1f8fc7e3fp+14)}},
		{1, api.DOpen, 12345.678, -0.0075, []api.Flow{pay(45563, -0x1.bbdb44cd14b3dp+5), pay(45745, -0x1.7e20cd08b7f81p+5), pay(45928, -0x1.7e20cd08b7f81p+5), pay(46110, -0x1.7e20cd08b7f81p+5), pay(46293, -0x1.7e20cd08b7f81p+5), pay(46475, -0x1.7e20cd08b7f81p+5)}},
		{2, api.DEuro, 12345.678, -0.0075, []api.Flow{pay(45825, -0x1.6e414f26aec07p+4), pay(45916, -0x1.6e414f26aec07p+4), pay(46007, -0x1.725ece9a2c669p+4), pay(46098, -0x1.767c4e0daa0cbp+4), pay(46189, -0x1.6e414f26aec07p+4)}},
		{2, api.D365, 1000000.0, 0.0425, []api.Flow{pay(45825, 0x1.4b1f1f8fc7e3fp+13), pay(45916, 0x1.4b1f1f8fc7e3fp+13), pay(46007, 0x1.4b1f1f8fc7e3fp+13), pay(46098, 0x1.4b1f1f8fc7e3fp+13), pay(46189, 0x1.4b1f1f8fc7e3fp+13)}},
		{3, api.D360, 1000000.0, 0.0425, []api.Flow{pay(45762, 0x1.9d31c71c71c72p+10), pay(45777, 0x1.bab5555555555p+10), pay(45790, 0x1.7fae38e38e38ep+10), pay(45804, 0x1.9d31c71c71c72p+10), pay(45826, 0x1.44a71c71c71c7p+11)}},
		{3, api.DBond, 12345.678, -0.0075, []api.Flow{pay(45762, -0x1.cce7c286f8ad2p+1), pay(45777, -0x1.edd3be22e5de1p+1), pay(45790, -0x1.abfbc6eb0b7c3p+1), pay(45804, -0x1.cce7c286f8ad2p+1), pay(45826, -0x1.59add1e53a81ep+2)}},
		{4, api.DAct, 12345.678, -0.0075, []api.Flow{pay(46020, -0x1.03c43f8bb1ba4p-2), pay(46037, -0x1.140083846cd5fp+2), pay(46054, -0x1.140083846cd5fp+2), pay(46071, -0x1.140083846cd5fp+2)}},
		{4, api.DOpen, -25000000.0, 0.0311, []api.Flow{pay(46020, -0x1.81aa28a28a28ap+11), pay(46037, -0x1.99c4cb2cb2cb2p+15), pay(46054, -0x1.99c4cb2cb2cb2p+15), pay(46071, -0x1.99c4cb2cb2cb2p+15)}},
		{5, api.DEuro, -25000000.0, 0.0311, []api.Flow{pay(45691, -0x1.7ba38p+19), pay(46055, -0x1.7ba38p+19), pay(46419, -0x1.7a9588e38e38ep+19), pay(46784, -0x1.7cb1771c71c72p+19), pay(47152, -0x1.7ba38p+19), pay(47517, -0x1.7ba38p+19), pay(47882, -0x1.7ba38p+19), pay(47973, -0x1.841338e38e38ep+17)}},
		{5, api.D365, 12345.678, -0.0075, []api.Flow{pay(45691, -0x1.736292d9b8185p+6), pay(46055, -0x1.715b0a5aa0b4dp+6), pay(46419, -0x1.715b0a5aa0b4dp+6), pay(46784, -0x1.7466571943cap+6), pay(47152, -0x1.736292d9b8185p+6), pay(47517, -0x1.725ece9a2c669p+6), pay(47882, -0x1.725ece9a2c669p+6), pay(47973, -0x1.715b0a5aa0b4dp+4)}},
	} {
		checkFixed(t, leg(api.LFixed, x.count, x.notional, x.rate, specs[x.spec]), flows(x.want...))
	}
}

// Promise 14.3: days and bits, reckoned elsewhere.
func TestFloatKnown(t *testing.T) {
	const b = 45290
	specs := knownSpecs()
	for _, x := range []struct {
		spec, count, kind int
		notional, rate    float64
		want              []api.Flow
	}{
		{0, api.D360, api.IFlat, 1000000.0, 0.0425, []api.Flow{pay(45718, 0x1.57f8bf8fbb1e8p+15), pay(45809, 0x1.4fb871c71c71cp+13), pay(45900, 0x1.3ef25d64ede51p+14), pay(45991, 0x1.4fb871c71c71cp+13), pay(46082, 0x1.4fb871c71c71cp+13), pay(46173, 0x1.4fb871c71c71cp+13), pay(46265, 0x1.22f70d7fc24a4p+16)}},
		{0, api.D360, api.ILinear, 1000000.0, 0.0425, []api.Flow{pay(45718, 0x1.20f3e208f1004p+13), pay(45809, 0x1.035023b71e931p+14), pay(45900, 0x1.61ea8246daf85p+14), pay(45991, 0x1.a03fc7840f45bp+14), pay(46082, 0x1.a442f3dbd8a3cp+14), pay(46173, 0x1.a867db1d29b89p+14), pay(46265, 0x1.8be506c4c3e08p+14)}},
		{0, api.D360, api.ICubic, 1000000.0, 0.0425, []api.Flow{pay(45718, 0x1.12421627408ffp+13), pay(45809, 0x1.efd547f036e3p+13), pay(45900, 0x1.3b7f54991806ep+14), pay(45991, 0x1.9ce197743837cp+14), pay(46082, 0x1.c8eadc32f8ba9p+14), pay(46173, 0x1.ba49001285f54p+14), pay(46265, 0x1.9a075160568bfp+14)}},
		{1, api.D365, api.IFlat, 100.0, 0.05, []api.Flow{pay(45563, 0x1.0f4160a1607b3p+2), pay(45745, 0x1.98194a8ec16b3p+2), pay(45928, 0x1.bca592a145f9cp+1), pay(46110, 0x1.3f1f8fc7e3f2p+1), pay(46293, 0x1.1b110f09b03bfp+3), pay(46475, 0x1.3f1f8fc7e3f2p+1)}},
		{1, api.D365, api.ILinear, 100.0, 0.05, []api.Flow{pay(45563, 0x1.69c724e85ecf1p+2), pay(45745, 0x1.1c9fce7cc7948p+2), pay(45928, 0x1.299c644ab388bp+2), pay(46110, 0x1.6f82904a0bcbep+2), pay(46293, 0x1.5cd32e2a6823cp+2), pay(46475, 0x1.4a9fe6d139cf6p+2)}},
		{1, api.D365, api.ICubic, 100.0, 0.05, []api.Flow{pay(45563, 0x1.768d1f4efaea7p+2), pay(45745, 0x1.0f7ffc379095p+2), pay(45928, 0x1.124b0dd5d89f8p+2), pay(46110, 0x1.860cfb1f7f084p+2), pay(46293, 0x1.682610d55152ep+2), pay(46475, 0x1.4f3e38a269ab2p+2)}},
		{2, api.DAct, api.IFlat, -25000000.0, 0.0, []api.Flow{pay(45825, minus), pay(45916, -0x1.d82532144af9fp+17), pay(46007, minus), pay(46098, minus), pay(46189, minus)}},
		{2, api.DAct, api.ILinear, -25000000.0, 0.0, []api.Flow{pay(45825, -0x1.1e23c246b50f4p+17), pay(45916, -0x1.55670fc0f771p+18), pay(46007, -0x1.85666e2975eddp+18), pay(46098, -0x1.8bb62ecbd9f01p+18), pay(46189, -0x1.923b2cf26ddb6p+18)}},
		{2, api.DAct, api.ICubic, -25000000.0, 0.0, []api.Flow{pay(45825, -0x1.0388b686d4a7dp+17), pay(45916, -0x1.0b99e2894f6c3p+18), pay(46007, -0x1.94759e7d65916p+18), pay(46098, -0x1.c6ac56d230f6fp+18), pay(46189, -0x1.9bd855b5f1a52p+18)}},
		{3, api.DBond, api.IFlat, 12345.678, -0.0075, []api.Flow{pay(45762, -0x1.cce7c286f8ad2p+1), pay(45777, -0x1.edd3be22e5de1p+1), pay(45790, -0x1.abfbc6eb0b7c3p+1), pay(45804, -0x1.cce7c286f8ad2p+1), pay(45826, -0x1.59add1e53a81ep+2)}},
		{3, api.DBond, api.ILinear, 12345.678, -0.0075, []api.Flow{pay(45762, 0x1.df0eea836736dp+2), pay(45777, 0x1.010120a6e3e7cp+3), pay(45790, 0x1.be0671e6eccd6p+2), pay(45804, 0x1.e0f98c58359cap+2), pay(45826, 0x1.82ee6660ba72ap+3)}},
		{3, api.DBond, api.ICubic, 12345.678, -0.0075, []api.Flow{pay(45762, 0x1.57cf82f723e1dp+2), pay(45777, 0x1.73eb42f70a788p+2), pay(45790, 0x1.60148ad056f9fp+2), pay(45804, 0x1.b60d290585d85p+2), pay(45826, 0x1.c094d8e6e1777p+3)}},
		{4, api.D365, api.IFlat, 1000000.0, 0.0425, []api.Flow{pay(46020, 0x1.d1c0e070381c1p+6), pay(46037, 0x1.eedcee773b9ddp+10), pay(46054, 0x1.eedcee773b9ddp+10), pay(46071, 0x1.eedcee773b9ddp+10)}},
		{4, api.D365, api.ILinear, 1000000.0, 0.0425, []api.Flow{pay(46020, 0x1.242470d3f5902p+8), pay(46037, 0x1.36f5e5c7ed9acp+12), pay(46054, 0x1.3785eff75b646p+12), pay(46071, 0x1.3816d86d64164p+12)}},
		{4, api.D365, api.ICubic, 1000000.0, 0.0425, []api.Flow{pay(46020, 0x1.3da18ec0d91a5p+8), pay(46037, 0x1.534c48be884ddp+12), pay(46054, 0x1.550aabab621d1p+12), pay(46071, 0x1.55433703133fp+12)}},
		{5, api.DOpen, api.IFlat, 100.0, 0.0, []api.Flow{pay(45691, 0x1.4e8e46e7b3055p+0), pay(46055, 0x1.38d34e886451cp+2), pay(46419, 0x1.95b1e5f75270dp+2), pay(46784, 0x1.7e6bd8260321ap+2), pay(47152, 0), pay(47517, 0), pay(47882, 0), pay(47973, 0)}},
		{5, api.DOpen, api.ILinear, 100.0, 0.0, []api.Flow{pay(45691, 0x1.2f6904d06cea3p+2), pay(46055, 0x1.30f26d452fe4fp+2), pay(46419, 0x1.783d18bf16ee8p+2), pay(46784, 0x1.21960b70a6ee3p+2), pay(47152, 0x1.d5ab5b78c1ed4p+1), pay(47517, 0x1.e62d3680d479ep+1), pay(47882, 0x1.f95f368fbf75p+1), pay(47973, 0x1.fcff6703fb577p-1)}},
		{5, api.DOpen, api.ICubic, 100.0, 0.0, []api.Flow{pay(45691, 0x1.2ff180886cc51p+2), pay(46055, 0x1.2564102786fadp+2), pay(46419, 0x1.9461fad297761p+2), pay(46784, 0x1.260d5d769dd4dp+2), pay(47152, 0x1.f573252b39085p+1), pay(47517, 0x1.d6de5a2f31e59p+1), pay(47882, 0x1.d61959e8be7b7p+1), pay(47973, 0x1.dc862cb11e5b7p-1)}},
	} {
		c := api.Curve{Base: b, Kind: x.kind, Days: []int{b + 91, b + 400, b + 550, b + 900, b + 1300, b + 3000}, Factors: []float64{0.9871, 0.9502, 0.9411, 0.8850, 0.8351, 0.7003}}
		checkFloat(t, leg(api.LFloat, x.count, x.notional, x.rate, specs[x.spec]), c, flows(x.want...))
	}
}

// once is one period of so many days from the day 0 on.
func once(days int) api.Spec {
	return api.Spec{End: days, N: 1200, Unit: api.UYear, Stub: api.SShortLast}
}

// Promises 14.2 and 14.4: by hand, where a step more or less, or in another order, would be seen.
func TestFixedHand(t *testing.T) {
	for _, x := range []struct {
		notional, rate float64
		days           int // of D360
		want           float64
	}{
		{100, 0.05, 360, 5},
		{0, 0.05, 360, 0},
		{minus, 0.05, 360, minus},
		{100, -0.05, 360, -5},
		{100, minus, 360, minus},
		{-100, minus, 360, 0},
		// The product of notional and rate is rounded ahead of the year: not notional * (rate * year), and not in one go.
		{1e6, 0.1, 181, 0x1.88cb8e38e38e3p+15},
		{3, 0.0425, 91, 0x1.08057619f0fb3p-5},
		{3, 0.7, 365, 0x1.1088888888887p+1},
		{10, 0.7, 7, 0x1.16c16c16c16c2p-3},
		// What overflows on the way is not brought back by a short year; what vanishes is not by a long one.
		{0x1p-1074, 0x1p-1, 720, 0},
		{0x1p-1074, -0x1p-1, 720, minus},
		{0x3p-1074, 0.5, 720, 0x1p-1072},
		{0x1p1000, 0x1p-1000, 36000, 100},
		{greatest, 1, 360, greatest},
		{greatest, 1, 1, greatest / 360},
		{least, 1, 1, 0},
		{-least, 1, 1, minus},
		{least, least, 36000, 0},
	} {
		checkFixed(t, leg(api.LFixed, api.D360, x.notional, x.rate, once(x.days)), flows(pay(x.days, x.want)))
	}
	for _, x := range []struct {
		notional, rate float64
		days           int
	}{
		{greatest, 2, 1}, {greatest, 1, 361}, {1e308, 1, 720}, {-1e308, 1.5, 720}, {2, greatest, 1}, {-greatest, greatest, 1}, {0x1p600, 0x1p600, 1},
	} {
		checkFixed(t, leg(api.LFixed, api.D360, x.notional, x.rate, once(x.days)), wrong(api.ErrValue))
	}
}

// Promises 14.2 and 14.3: a period whose year is nought: its amount is a nought, but not where what it is multiplied by is none; a rate of the curve there is none.
func TestNoYear(t *testing.T) {
	// From the 30th to the 31st by DEuro, and a weekend by DOpen.
	month := api.Spec{Start: 46019, End: 46020, N: 1, Unit: api.UMonth, Stub: api.SShortFirst}
	rest := api.Spec{Start: 5, End: 7, N: 1, Unit: api.UMonth, Stub: api.SShortFirst, Cal: api.Calendar{Weekend: 96}}
	// Both ends are moved to one day.
	moved := api.Spec{Start: 5, End: 6, N: 1, Unit: api.UDay, Stub: api.SShortFirst, Conv: api.CFollow, Cal: api.Calendar{Weekend: 96}}
	for _, x := range []struct {
		s          api.Spec
		count, pay int
	}{{month, api.DEuro, 46020}, {month, api.DBond, 46020}, {rest, api.DOpen, 7}, {moved, api.D365, 7}, {moved, api.DAct, 7}} {
		checkFixed(t, leg(api.LFixed, x.count, 100, 0.05, x.s), flows(pay(x.pay, 0)))
		checkFixed(t, leg(api.LFixed, x.count, -100, 0.05, x.s), flows(pay(x.pay, minus)))
		checkFixed(t, leg(api.LFixed, x.count, greatest, greatest, x.s), wrong(api.ErrValue))
		for _, kind := range kinds() {
			c := api.Curve{Kind: kind, Days: []int{50000}, Factors: []float64{0.5}}
			checkFloat(t, leg(api.LFloat, x.count, 100, 0.05, x.s), c, wrong(api.ErrValue))
		}
	}
}

// Promises 14.2, 14.4 and 14.10: each step, of all sorts of legs: one flow a period, on its Pay.
func TestFixedSteps(t *testing.T) {
	state := uint64(142)
	good, bad := 0, 0
	for range 3000 {
		g := someLeg(&state, api.LFixed)
		want := stepFixed(g)
		checkFixed(t, g, want)
		if want.e != api.OK {
			bad++
			continue
		}
		good++
		periods, e := sched.Periods(g.Spec)
		l, _ := flow.Fixed(g)
		if e != api.OK || len(l) != len(periods) {
			t.Errorf("Fixed(%v) has %d flows, but %d periods, %v", g, len(l), len(periods), e)
			continue
		}
		for i, p := range periods {
			if l[i].Day != p.Pay || l[i].Cur != g.Cur {
				t.Errorf("Fixed(%v) pays %v in the period %v", g, l[i], p)
			}
		}
	}
	if good < 2000 || bad < 20 {
		t.Errorf("only %d lists, %d errors", good, bad)
	}
}

// Promise 14.3: each step, of all sorts of legs and curves.
func TestFloatSteps(t *testing.T) {
	state := uint64(143)
	seen := map[api.Errno]int{}
	for range 3000 {
		g := someLeg(&state, api.LFloat)
		c := someCurve(&state, g.Spec)
		want := stepFloat(g, c)
		checkFloat(t, g, c, want)
		seen[want.e]++
	}
	if seen[api.OK] < 1500 || seen[api.ErrRange] < 50 || seen[api.ErrValue] < 50 {
		t.Errorf("only %v", seen)
	}
}

// Promise 14.3: by hand, where another order of steps would be seen.
func TestFloatHand(t *testing.T) {
	at := func(f float64) api.Curve {
		return api.Curve{Kind: api.ILinear, Days: []int{360}, Factors: []float64{f}}
	}
	for _, x := range []struct {
		notional, rate, factor, want float64
	}{
		{100, 0, 0.5, 100},
		{100, 0.5, 0.5, 150},
		{100, -1, 0.5, 0},
		{-100, -1, 0.5, minus},
		{100, 0, 1, 0},
		{100, minus, 1, 0},
		{-100, 0, 1, minus},
		{0, 3, 0.25, 0},
		{minus, 3, 0.25, minus},
		{100, 0, 2, -50},
		// The sum of the rates is rounded, then its product with the notional.
		{0x1p60, 0x1p-60, 0.5, 0x1p60},
		{0x1p60, -0x1p-54, 0.5, 0x1p60},
		{0x1p60, -1, 0.5, 0},
		// Two products would overflow, or cancel, where the one of the sum does not.
		{greatest, -3, 0.25, 0},
		{greatest, -2.5, 0.25, greatest / 2},
	} {
		checkFloat(t, leg(api.LFloat, api.D360, x.notional, x.rate, once(360)), at(x.factor), flows(pay(360, x.want)))
	}
	for _, x := range [][3]float64{{greatest, 1, 0.5}, {1, greatest, 0x1p-1000}, {0, greatest, 0x1p-1022}, {2, greatest, 1}, {-greatest, -5, 0.5}, {0x1p1000, -0x1p40, 0x1p-41}} {
		checkFloat(t, leg(api.LFloat, api.D360, x[0], x[1], once(360)), at(x[2]), wrong(api.ErrValue))
	}
}

// badSpecs is schedules that may not be, each with its error.
func badSpecs() map[string]struct {
	s api.Spec
	e api.Errno
} {
	type bad = struct {
		s api.Spec
		e api.Errno
	}
	with := func(change func(*api.Spec)) api.Spec {
		s := halves()
		change(&s)
		return s
	}
	return map[string]bad{
		"start":    {with(func(s *api.Spec) { s.Start = -1 }), api.ErrRange},
		"end":      {with(func(s *api.Spec) { s.End = api.LastDay + 1 }), api.ErrRange},
		"order":    {with(func(s *api.Spec) { s.End = s.Start }), api.ErrSpec},
		"nought":   {with(func(s *api.Spec) { s.N = 0 }), api.ErrSpec},
		"unit":     {with(func(s *api.Spec) { s.Unit = 5 }), api.ErrSpec},
		"stub":     {with(func(s *api.Spec) { s.Stub = 0 }), api.ErrSpec},
		"roll":     {with(func(s *api.Spec) { s.Roll = 3 }), api.ErrSpec},
		"conv":     {with(func(s *api.Spec) { s.Conv = -1 }), api.ErrSpec},
		"lag":      {with(func(s *api.Spec) { s.Lag = 31 }), api.ErrSpec},
		"closed":   {with(func(s *api.Spec) { s.Cal = closed() }), api.ErrCal},
		"rule":     {with(func(s *api.Spec) { s.Cal = odd() }), api.ErrCal},
		"rules":    {with(func(s *api.Spec) { s.Cal = tooMany() }), api.ErrLong},
		"many":     {api.Spec{End: 1201, N: 1, Unit: api.UDay, Stub: api.SLongLast}, api.ErrMany},
		"pay":      {api.Spec{Start: api.LastDay - 9, End: api.LastDay, N: 1, Unit: api.UDay, Stub: api.SLongLast, Lag: 1}, api.ErrRange},
		"none yet": {api.Spec{}, api.ErrSpec},
	}
}

// Promises 14.2 to 14.4: what is wrong with a leg, in its order: kind, currency, numbers, schedule, then the count.
func TestLegRefusals(t *testing.T) {
	curves := []api.Curve{{}, {Kind: api.IFlat}, {Kind: api.ILinear, Days: []int{api.LastDay}, Factors: []float64{0.5}}}
	refused := func(kind int, g api.Leg, want api.Errno) {
		t.Helper()
		if kind == api.LFixed {
			checkFixed(t, g, wrong(want))
			return
		}
		for _, c := range curves {
			checkFloat(t, g, c, wrong(want))
		}
	}
	for _, kind := range []int{api.LFixed, api.LFloat} {
		for _, x := range badSpecs() {
			g := leg(kind, api.D365, 100, 0.05, x.s)
			refused(kind, g, x.e)
			g.Count = 0
			refused(kind, g, x.e)
			for _, bad := range []float64{nan, inf, -inf} {
				g.Notional, g.Rate = bad, 0.05
				refused(kind, g, api.ErrValue)
				g.Notional, g.Rate = 100, bad
				refused(kind, g, api.ErrValue)
				g.Notional = -bad
				for _, cur := range []int{math.MinInt, -1, 0, 9, 256 + 1, 1<<32 + 1, math.MaxInt} {
					g.Cur = cur
					refused(kind, g, api.ErrCur)
					for _, other := range []int{math.MinInt, -1, 0, 3 - kind, 3, 256 + kind, math.MaxInt} {
						g.Kind = other
						refused(kind, g, api.ErrKind)
					}
					g.Kind = kind
				}
				g.Cur = 1
			}
		}
		for _, cur := range []int{1, 2, 8} {
			g := leg(kind, api.D365, 100, 0.05, halves())
			g.Cur = cur
			if kind == api.LFixed {
				checkFixed(t, g, stepFixed(g))
			} else {
				checkFloat(t, g, curves[2], stepFloat(g, curves[2]))
			}
			g.Kind = 3 - kind
			refused(kind, g, api.ErrKind)
		}
	}
}

// Promises 14.2 to 14.4: no day count: ahead of an amount that is none, and, of a floating leg, behind the curve's days.
func TestLegCount(t *testing.T) {
	c := api.Curve{Kind: api.ILinear, Days: []int{api.LastDay}, Factors: []float64{0.5}}
	short := api.Curve{Kind: api.ILinear, Days: []int{jan15}, Factors: []float64{0.5}}
	late := api.Curve{Base: jan15 + 1, Kind: api.ILinear, Days: []int{api.LastDay}, Factors: []float64{0.5}}
	for _, n := range []int{math.MinInt, -1, 0, 7, 256 + api.D360, 1<<32 + api.DOpen, math.MaxInt} {
		for _, notional := range []float64{100, 0, greatest} {
			checkFixed(t, leg(api.LFixed, n, notional, greatest, halves()), wrong(api.ErrCount))
			g := leg(api.LFloat, n, notional, greatest, halves())
			checkFloat(t, g, c, wrong(api.ErrCount))
			checkFloat(t, g, short, wrong(api.ErrRange))
			checkFloat(t, g, late, wrong(api.ErrRange))
		}
	}
	// The calendar is that of the schedule, asked by DOpen alone.
	for _, n := range counts() {
		g := leg(api.LFixed, n, 100, 0.05, halves())
		plain := stepFixed(g)
		checkFixed(t, g, plain)
		g.Spec.Cal = api.Calendar{Weekend: 126}
		other := stepFixed(g)
		checkFixed(t, g, other)
		if plain.is(other) != (n != api.DOpen) {
			t.Errorf("count %d: %v, and %v with all but one day closed", n, plain, other)
		}
		g.Kind = api.LFloat
		checkFloat(t, g, c, stepFloat(g, c))
	}
}

// Promise 14.3: what is wrong with the curve, behind all that is wrong with the leg but its count; then period by period.
func TestFloatCurve(t *testing.T) {
	good := api.Curve{Base: 7, Kind: api.ILinear, Days: []int{20, 50000}, Factors: []float64{0.5, 0.25}}
	for _, x := range []struct {
		change func(*api.Curve)
		want   api.Errno
	}{
		{func(c *api.Curve) { c.Base = -1 }, api.ErrRange},
		{func(c *api.Curve) { c.Base, c.Kind = api.LastDay+1, 0 }, api.ErrRange},
		{func(c *api.Curve) { c.Kind = 5 }, api.ErrKind},
		{func(c *api.Curve) { c.Kind, c.Days = 0, nil }, api.ErrKind},
		{func(c *api.Curve) { c.Days, c.Factors = nil, nil }, api.ErrNodes},
		{func(c *api.Curve) { c.Base = 20 }, api.ErrNodes},
		{func(c *api.Curve) { c.Factors = []float64{0.5, 0} }, api.ErrNodes},
		{func(c *api.Curve) { c.Factors = []float64{0.5, nan} }, api.ErrNodes},
		{func(c *api.Curve) { c.Factors = []float64{0.5} }, api.ErrNodes},
	} {
		c := good
		x.change(&c)
		for _, n := range []int{api.D365, 0} {
			checkFloat(t, leg(api.LFloat, n, 100, 0.05, halves()), c, wrong(x.want))
			checkFloat(t, leg(api.LFloat, n, greatest, greatest, halves()), c, wrong(x.want))
		}
	}
	// The first period that cannot be told says which error it is: beyond the curve, or too great.
	for _, kind := range kinds() {
		from := func(base, last int) api.Curve {
			return api.Curve{Base: base, Kind: kind, Days: []int{jul15, last}, Factors: []float64{0.5, 0.25}}
		}
		g := leg(api.LFloat, api.D365, 100, 0.05, halves())
		huge := leg(api.LFloat, api.D365, greatest, 5, halves())
		checkFloat(t, g, from(jan15, next15), stepFloat(g, from(jan15, next15)))
		if a := stepFloat(g, from(jan15, next15)); a.e != api.OK || len(a.l) != 2 {
			t.Errorf("kind %d: the steps tell %v", kind, a)
		}
		checkFloat(t, g, from(jan15+1, next15), wrong(api.ErrRange))
		checkFloat(t, g, from(jan15, next15-1), wrong(api.ErrRange))
		checkFloat(t, huge, from(jan15+1, next15), wrong(api.ErrRange))
		checkFloat(t, huge, from(jan15, next15-1), wrong(api.ErrValue))
		only := api.Curve{Base: jan15, Kind: kind, Days: []int{jul15}, Factors: []float64{0.5}}
		checkFloat(t, g, only, wrong(api.ErrRange))
		checkFloat(t, huge, only, wrong(api.ErrValue))
	}
	// A payment beyond the curve's last day is not asked of the curve.
	g := leg(api.LFloat, api.D365, 100, 0.05, halves())
	g.Spec.Lag = 30
	c := api.Curve{Base: jan15, Kind: api.ILinear, Days: []int{next15}, Factors: []float64{0.5}}
	checkFloat(t, g, c, stepFloat(g, c))
	if l, e := flow.Float(g, c); e != api.OK || l[1].Day != next15+30 {
		t.Errorf("Float with a lag is %v, %v", l, e)
	}
}

// Promise 14.3: the rate is the curve's of the period, from its Start to its End, not of the days that cut.
func TestFloatAdjusted(t *testing.T) {
	s := api.Spec{Start: 45689, End: 45780, N: 1, Unit: api.UMonth, Stub: api.SShortFirst, Conv: api.CFollow, Cal: week()} // from a Monday to a Sunday
	c := api.Curve{Base: 45600, Kind: api.ILinear, Days: []int{45900}, Factors: []float64{0.5}}
	periods, e := sched.Periods(s)
	if e != api.OK || periods[2].End == periods[2].To {
		t.Fatalf("the periods are %v, %v", periods, e)
	}
	l, e := flow.Float(leg(api.LFloat, api.D360, 1, 0, s), c)
	if e != api.OK || len(l) != len(periods) {
		t.Fatalf("Float is %v, %v", l, e)
	}
	for i, p := range periods {
		r, _ := curve.Forward(c, api.D360, s.Cal, p.Start, p.End)
		if want := float64(p.End-p.Start) / 360 * r; l[i].Amount != want || l[i].Day != p.End {
			t.Errorf("the period %v pays %v, not %x", p, l[i], want)
		}
	}
}

// Promises 14.2 to 14.4: as many periods as may be, with as many rules as may be.
func TestLegFull(t *testing.T) {
	s := api.Spec{Start: 0, End: 36524, N: 1, Unit: api.UMonth, Stub: api.SShortLast, Conv: api.CModFollow, Lag: 30, Cal: api.Calendar{Weekend: 96}}
	for i := range api.MaxRules {
		s.Cal.Rules = append(s.Cal.Rules, api.Rule{Kind: api.HFix, Month: 1 + i%12, Day: 1 + i/3, From: 1900, To: 2199, Move: i % 3})
	}
	c := api.Curve{Kind: api.ICubic}
	for i := range api.MaxNodes - 1 {
		c.Days, c.Factors = append(c.Days, 150*(i+1)), append(c.Factors, 1/float64(i+2))
	}
	for _, n := range counts() {
		g := leg(api.LFixed, n, 1e6, 0.0425, s)
		want := stepFixed(g)
		if len(want.l) != api.MaxPeriods {
			t.Fatalf("the steps tell %d flows, %v", len(want.l), want.e)
		}
		checkFixed(t, g, want)
		g.Kind = api.LFloat
		checkFloat(t, g, c, stepFloat(g, c))
	}
	s.End++
	checkFixed(t, leg(api.LFixed, api.D360, 1, 1, s), wrong(api.ErrMany))
	checkFloat(t, leg(api.LFloat, api.D360, 1, 1, s), c, wrong(api.ErrMany))
}
