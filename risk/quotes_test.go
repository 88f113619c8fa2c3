package risk_test

import (
	"math"
	"slices"
	"testing"

	"tenor/api"
	"tenor/boot"
	"tenor/price"
	"tenor/risk"
)

// checkQuotes holds one answer of Quotes.
func checkQuotes(t *testing.T, l []api.Flow, cur, base, kind int, k api.Calendar, q []api.Quote, h float32, want answer) {
	t.Helper()
	if got := list(risk.Quotes(l, cur, base, kind, k, q, h)); !got.is(want) {
		t.Errorf("Quotes(%v, %d, %d, %d, %v, %v, %x) is %x, %v, not %x, %v", l, cur, base, kind, k, q, h, got.l, got.e, want.l, want.e)
	}
}

// ladderOfQuotes is deposits and swaps from 2025-01-01 on.
func ladderOfQuotes() (int, []api.Quote) {
	return 45656, []api.Quote{
		deposit(45687, api.D360, 0.0431),
		deposit(45746, api.DOpen, 0.0427),
		deposit(45837, api.DAct, 0.042),
		swap(46021, api.DEuro, 3, 0.0409),
		swap(46386, api.DBond, 6, 0.0386),
		swap(47499, api.D365, 12, 0.0375),
		swap(49308, api.D360, 6, 0.0391),
	}
}

// Promise 16.4: bits, reckoned elsewhere.
func TestQuotesKnown(t *testing.T) {
	b, q := ladderOfQuotes()
	l := []api.Flow{pay(b+20, 1000), pay(b+150, -250.5), pay(b+700, 37.25), pay(b+3000, 812), pay(b+3652, -99), f(b+100, 5, 2), pay(b-1, 7)}
	for _, x := range []struct {
		h    float32
		kind int
		want []float64
	}{
		{0x1.a36e2ep-14, 1, []float64{0, 0x1.984385c5cp-8, -0x1.32a9c7e8p-13, -0x1.637cb0fdp-10, 0x1.d6829c94p-7, -0x1.79aeb4ebf3p-2, 0x1.6069757fb8p-4}},
		{0x1.a36e2ep-14, 2, []float64{-0x1.6949d3afp-8, 0x1.157ca80b8p-9, 0x1.0c6bffefp-7, 0x1.89bbf9e7p-10, 0x1.32e1389cp-9, -0x1.8fde3bd60cp-4, -0x1.44a62d11b7p-2}},
		{0x1.a36e2ep-14, 3, []float64{-0x1.afdc9265cp-8, 0x1.9dbc43bcp-9, 0x1.273d7634ap-7, 0x1.31cc06cp-16, 0x1.c8c009e98p-7, -0x1.1174366064p-3, -0x1.2d525263c9p-2}},
		{0x1.a36e2ep-14, 4, []float64{-0x1.69c8d1214p-8, 0x1.13b3ed728p-9, 0x1.0e60f9916p-7, 0x1.82bad309p-10, 0x1.128abb32p-9, -0x1.49d46405c4p-4, -0x1.6146c06e49p-2}},
		{-0x1.47ae14p-7, 1, []float64{0, -0x1.3fc311e75b8p-1, 0x1.e183fcda4p-7, 0x1.166a5a12dp-3, -0x1.7168f3f70dcp+0, 0x1.29f5b255f752p+5, -0x1.14b7b3de5508p+3}},
		{-0x1.47ae14p-7, 2, []float64{0x1.1a7f1a7c8fp-1, -0x1.b2ab3bf70ep-3, -0x1.a5784bed4bp-1, -0x1.34c05a9ef8p-3, -0x1.e309b0902ap-3, 0x1.3e76f8eab2ep+3, 0x1.0430c5eb89ecp+5}},
		{-0x1.47ae14p-7, 3, []float64{0x1.4807acbce6p-1, -0x1.6863466574p-2, -0x1.baa3853be18p-1, 0x1.21b2963f6p-7, -0x1.6b765396674p+0, 0x1.e487aba9022p+3, 0x1.ef1c1ce2e174p+4}},
		{-0x1.47ae14p-7, 4, []float64{0x1.1ad742da628p-1, -0x1.af8307ed9p-3, -0x1.a8341161878p-1, -0x1.2f50ec83b4p-3, -0x1.ab9ab254fcp-3, 0x1.0001874aa5dp+3, 0x1.1521883f5bdcp+5}},
		{0x1.47ae14p-6, 1, []float64{0, 0x1.3d5d3016eep+0, -0x1.da90d794ap-6, -0x1.145bcf913dp-2, 0x1.6c06cc74362p+1, -0x1.2181ca56d648p+6, 0x1.109957b24268p+4}},
		{0x1.47ae14p-6, 2, []float64{-0x1.19c549ee898p+0, 0x1.af68c0b8aap-2, 0x1.9f6303509ap+0, 0x1.315b00f9b3p-2, 0x1.d8a7855b56p-2, -0x1.2d1441d7f1fp+4, -0x1.e33d91ece074p+5}},
		{0x1.47ae14p-6, 3, []float64{-0x1.612cc2e4058p+0, 0x1.17b381d8cdp-1, 0x1.e78073972fcp+0, -0x1.30fce65698p-5, 0x1.823710d269ap+1, -0x1.53a1d3e143dp+4, -0x1.b72a937f1046p+5}},
		{0x1.47ae14p-6, 4, []float64{-0x1.1a3e2fa6504p+0, 0x1.ad577686e5p-2, 0x1.a31193a3b8p+0, 0x1.2bcd8fb104p-2, 0x1.afa221f638p-2, -0x1.04e168e9a05cp+4, -0x1.11fb4349023ap+6}},
	} {
		checkQuotes(t, l, 1, b, x.kind, week(), q, x.h, value(x.want...))
	}
}

// Promise 16.4: each step, of all sorts of quotes, flows and bumps.
func TestQuotesSteps(t *testing.T) {
	state := uint64(164)
	bumps := []float32{0.0001, -0.0001, 0.01, -0.01, 0x1p-30, 0.5, -0.5, 0, float32(minus), greatest32, -greatest32, float32(inf), float32(nan)}
	seen := map[api.Errno]int{}
	for i := range 600 {
		kind := 1 + i%4
		base, q := someQuotes(&state)
		c := api.Curve{Base: base}
		for _, x := range q {
			c.Days = append(c.Days, x.End)
		}
		l := someFlows(&state, []int{2, 8}[below(&state, 2)], c)
		h := bumps[below(&state, len(bumps))]
		if below(&state, 2) == 0 {
			h = float32(unit(&state)-0.5) / 50
		}
		want := stepQuotes(l, 1, base, kind, week(), q, h)
		checkQuotes(t, l, 1, base, kind, week(), q, h, want)
		seen[want.e]++
	}
	if seen[api.OK] < 200 || seen[api.ErrBracket] < 50 || seen[api.ErrValue] < 20 || seen[api.ErrRange] < 5 {
		t.Errorf("only %v", seen)
	}
}

// Promise 16.4: by hand: the quote's rate is raised, one after the other, each from what it was.
func TestQuotesHand(t *testing.T) {
	q := []api.Quote{deposit(360, api.D360, 0.25), deposit(720, api.D360, 0.5)}
	first := func(rate float32) float64 {
		c, _, _ := boot.Build(0, api.ILinear, api.Calendar{}, []api.Quote{deposit(360, api.D360, rate)})
		return c.Factors[0]
	}
	second := func(rate float32) float64 {
		c, _, _ := boot.Build(0, api.ILinear, api.Calendar{}, []api.Quote{deposit(720, api.D360, rate)})
		return c.Factors[0]
	}
	checkQuotes(t, []api.Flow{pay(360, 1)}, 1, 0, api.ILinear, api.Calendar{}, q, 0.75, value(first(1)-first(0.25), 0))
	checkQuotes(t, []api.Flow{pay(720, 1)}, 1, 0, api.ILinear, api.Calendar{}, q, 0.5, value(0, second(1)-second(0.5)))
	checkQuotes(t, []api.Flow{pay(720, 1)}, 1, 0, api.ILinear, api.Calendar{}, q, -0.25, value(0, second(0.25)-second(0.5)))
	checkQuotes(t, []api.Flow{f(720, 1, 8)}, 8, 0, api.ILinear, api.Calendar{}, q, -0.25, value(0, second(0.25)-second(0.5)))
	checkQuotes(t, []api.Flow{pay(0, 1), f(360, 1, 2)}, 1, 0, api.ILinear, api.Calendar{}, q, 0.25, value(0, 0))
	checkQuotes(t, nil, 1, 0, api.ILinear, api.Calendar{}, q, 0.25, value(0, 0))
	// The sum is rounded to binary32: what is too small for the rate moves nothing.
	checkQuotes(t, []api.Flow{pay(360, 1e300)}, 1, 0, api.ILinear, api.Calendar{}, q, 0x1p-27, value(0, 0))
	checkQuotes(t, []api.Flow{pay(360, 1)}, 1, 0, api.ILinear, api.Calendar{}, q, 0x1p-26, value(0, 0))
	up := math.Nextafter32(0.25, 1)
	checkQuotes(t, []api.Flow{pay(360, 1)}, 1, 0, api.ILinear, api.Calendar{}, q, 0x1.8p-26, value(first(up)-first(0.25), 0))
	// By the other quotes' calendar and count: a swap behind hangs on the deposits.
	b, l := ladderOfQuotes()
	flows := []api.Flow{pay(b+3652, 100)}
	checkQuotes(t, flows, 1, b, api.ILog, week(), l, 0.001, stepQuotes(flows, 1, b, api.ILog, week(), l, 0.001))
	if got := list(risk.Quotes(flows, 1, b, api.ILog, week(), l, 0.001)); got.e != api.OK || len(got.l) != len(l) || got.l[5] == 0 || !(got.l[6] < 0) {
		t.Errorf("the bumps are %v", got)
	}
}

// badMarkets is what no curve can be built of, each with boot's error.
func badMarkets() []struct {
	base, kind int
	k          api.Calendar
	q          []api.Quote
	e          api.Errno
} {
	good := []api.Quote{deposit(360, api.D360, 0.25)}
	with := func(q ...api.Quote) []api.Quote { return append(slices.Clone(good), q...) }
	return []struct {
		base, kind int
		k          api.Calendar
		q          []api.Quote
		e          api.Errno
	}{
		{-1, 0, closed(), nil, api.ErrRange},
		{api.LastDay + 1, api.ILinear, week(), good, api.ErrRange},
		{0, 0, closed(), nil, api.ErrKind},
		{0, 5, week(), good, api.ErrKind},
		{0, api.ILinear, closed(), nil, api.ErrCal},
		{0, api.ILinear, odd(), good, api.ErrCal},
		{0, api.ILinear, tooMany(), good, api.ErrLong},
		{0, api.ILinear, week(), slices.Repeat(good, 65), api.ErrLong},
		{0, api.ILinear, week(), nil, api.ErrNodes},
		{0, api.ILinear, week(), []api.Quote{}, api.ErrNodes},
		{0, api.ILinear, week(), with(api.Quote{}), api.ErrQuote},
		{0, api.ILinear, week(), with(deposit(370, api.D360, float32(nan))), api.ErrQuote},
		{0, api.ILinear, week(), with(deposit(370, api.D360, float32(inf))), api.ErrQuote},
		{0, api.ILinear, week(), with(swap(370, api.D360, 121, 0.1)), api.ErrQuote},
		{0, api.ILinear, week(), with(deposit(370, 0, 0.1)), api.ErrCount},
		{0, api.ILinear, week(), with(good...), api.ErrOrder},
		{360, api.ILinear, week(), good, api.ErrOrder},
		{0, api.ILinear, week(), with(deposit(720, api.D360, -2)), api.ErrBracket},
		{0, api.ILinear, week(), []api.Quote{swap(api.LastDay, api.D360, 1, 0.1)}, api.ErrMany},
	}
}

// Promise 16.4: what is wrong: boot's error, then that of the flows on the curve, then that of the bump, then those of the quotes bumped.
func TestQuotesRefusals(t *testing.T) {
	noNumbers32 := []float32{float32(nan), float32(inf), -float32(inf), math.Float32frombits(0xff800001), math.Float32frombits(0x7fffffff)}
	bumps := append([]float32{0, 0.01, greatest32, -greatest32}, noNumbers32...)
	l := []api.Flow{pay(360, 1)}
	for _, h := range bumps {
		for _, x := range badMarkets() {
			checkQuotes(t, l, 1, x.base, x.kind, x.k, x.q, h, wrong(x.e))
			checkQuotes(t, nil, 9, x.base, x.kind, x.k, x.q, h, wrong(x.e))
			checkQuotes(t, []api.Flow{pay(-1, nan)}, 1, x.base, x.kind, x.k, x.q, h, wrong(x.e))
		}
		q := []api.Quote{deposit(360, api.D360, 0.25), deposit(720, api.D360, 0.25)}
		for _, x := range badFlows() {
			checkQuotes(t, x.l, 1, 0, api.ILinear, week(), q, h, wrong(x.e))
			checkQuotes(t, x.l, 0, 0, api.ILinear, week(), q, h, wrong(x.e))
		}
		for _, cur := range noCurs() {
			checkQuotes(t, l, cur, 0, api.ILinear, week(), q, h, wrong(api.ErrCur))
		}
		checkQuotes(t, []api.Flow{pay(721, 1)}, 1, 0, api.ILinear, week(), q, h, wrong(api.ErrRange))
		checkQuotes(t, []api.Flow{pay(0, greatest), pay(0, greatest)}, 1, 0, api.ILinear, week(), q, h, wrong(api.ErrValue))
	}
	for _, kind := range kinds() {
		for _, h := range noNumbers32 {
			checkQuotes(t, l, 1, 0, kind, week(), []api.Quote{deposit(360, api.D360, 0.25)}, h, wrong(api.ErrValue))
			checkQuotes(t, nil, 1, 0, kind, week(), []api.Quote{deposit(360, api.D360, 0.25)}, h, wrong(api.ErrValue))
		}
	}
}

// Promise 16.4: errors of the quotes bumped, those of the first one ahead of those of the others.
func TestQuotesFaults(t *testing.T) {
	// From a Saturday to the Sunday no day is open: whatever the rate is, the factor is 1.
	free := deposit(6, api.DOpen, greatest32)
	plain := deposit(9, api.D360, 0.25)
	l := []api.Flow{pay(6, 1)}
	checkQuotes(t, l, 1, 5, api.ILinear, week(), []api.Quote{free}, 0.25, value(0))
	checkQuotes(t, l, 1, 5, api.ILinear, week(), []api.Quote{free}, -greatest32, value(0))
	// Half of the last bit on top of the greatest binary32 is an infinity, what is less is rounded off.
	below := math.Nextafter32(0x1p103, 0)
	checkQuotes(t, l, 1, 5, api.ILinear, week(), []api.Quote{free}, below, value(0))
	checkQuotes(t, l, 1, 5, api.ILinear, week(), []api.Quote{free}, 0x1p103, wrong(api.ErrQuote))
	checkQuotes(t, l, 1, 5, api.ILinear, week(), []api.Quote{free}, greatest32, wrong(api.ErrQuote))
	free.Rate = -greatest32
	checkQuotes(t, l, 1, 5, api.ILinear, week(), []api.Quote{free}, -0x1p103, wrong(api.ErrQuote))
	checkQuotes(t, l, 1, 5, api.ILinear, week(), []api.Quote{free}, -below, value(0))
	// ErrBracket of a rate that no factor meets, ahead of the other's ErrQuote, and behind it.
	free.Rate = greatest32
	checkQuotes(t, l, 1, 5, api.ILinear, week(), []api.Quote{free, plain}, greatest32, wrong(api.ErrQuote))
	checkQuotes(t, l, 1, 5, api.ILinear, week(), []api.Quote{free, plain}, -greatest32, wrong(api.ErrBracket))
	late := []api.Quote{deposit(6, api.D360, 0.25), deposit(7, api.DOpen, greatest32)}
	checkQuotes(t, l, 1, 5, api.ILinear, week(), late, 0.25, stepQuotes(l, 1, 5, api.ILinear, week(), late, 0.25))
	checkQuotes(t, l, 1, 5, api.ILinear, week(), late, greatest32, wrong(api.ErrBracket))
	checkQuotes(t, l, 1, 5, api.ILinear, week(), late, 0x1p103, wrong(api.ErrBracket))
	// A bump of the first quote that its own node stands, but not the one behind it.
	hard := []api.Quote{deposit(360, api.D360, 0.5), swap(720, api.D360, 12, 0.5)}
	for i, q := range hard {
		m := slices.Clone(hard)
		m[i].Rate = q.Rate - 1.25
		if _, e, at := boot.Build(0, api.ILinear, api.Calendar{}, m); (e != api.OK) != (i == 0) || i == 0 && at != 1 {
			t.Errorf("the quotes %v build %v at %d", m, e, at)
		}
	}
	checkQuotes(t, l, 1, 0, api.ILinear, api.Calendar{}, hard, -1.25, wrong(api.ErrBracket))
	// The worth on the new curve is no number; so is the difference.
	g := greatest
	flat := []api.Quote{deposit(360, api.D360, 0)}
	checkQuotes(t, []api.Flow{pay(360, g)}, 1, 0, api.ILinear, api.Calendar{}, flat, -0.25, wrong(api.ErrValue))
	great := []api.Flow{pay(360, g), pay(360, g), pay(0, -g), pay(0, -g), pay(0, -0.9*g)}
	v, e := price.Present(great, 1, api.Curve{Kind: api.ILinear, Days: []int{360}, Factors: []float64{1.9}})
	if e != api.OK || v < 0.8*g {
		t.Errorf("on the new curve the flows are worth %v, %v", v, e)
	}
	checkQuotes(t, great, 1, 0, api.ILinear, api.Calendar{}, flat, float32(1/1.9-1), wrong(api.ErrValue))
	checkQuotes(t, great, 1, 0, api.ILinear, api.Calendar{}, flat, -0.25, stepQuotes(great, 1, 0, api.ILinear, api.Calendar{}, flat, -0.25))
}

// Promise 16.5: a bump by 0 moves nothing; a rate of -0 as little.
func TestQuotesNothing(t *testing.T) {
	state := uint64(1651)
	held := 0
	for i := range 200 {
		kind := 1 + i%4
		base, q := someQuotes(&state)
		if below(&state, 4) == 0 {
			q[below(&state, len(q))].Rate = float32(minus)
		}
		c, e, _ := boot.Build(base, kind, week(), q)
		if e != api.OK {
			continue
		}
		l := someFlows(&state, 8, c)
		if _, e := stepPresent(l, 1, c); e != api.OK {
			continue
		}
		held++
		for _, h := range []float32{0, float32(minus)} {
			checkQuotes(t, l, 1, base, kind, week(), q, h, value(make([]float64, len(q))...))
		}
	}
	if held < 80 {
		t.Errorf("only %d markets", held)
	}
}

// Promises 16.4 and 16.9: as many quotes as may be.
func TestQuotesFull(t *testing.T) {
	var q []api.Quote
	for i := range api.MaxQuotes {
		q = append(q, deposit(8+3*i, api.D365, 0.02))
	}
	for _, kind := range kinds() {
		got := list(risk.Quotes([]api.Flow{pay(8+3*63, -1)}, 1, 7, kind, week(), q, 0.01))
		if got.e != api.OK || len(got.l) != len(q) || !(got.l[63] > 0) {
			t.Errorf("kind %d: %v", kind, got)
			continue
		}
		for i, x := range got.l[:63] {
			if math.Float64bits(x) != 0 {
				t.Errorf("kind %d: the quote %d moves the last node by %x", kind, i, x)
			}
		}
	}
	checkQuotes(t, nil, 1, 7, api.IFlat, week(), append(q, deposit(9999, api.D365, 0.02)), 0.01, wrong(api.ErrLong))
}

// Promise 16.9: whatever is given, every call ends and none panics; beside an error there is nothing.
func TestQuotesAnything(t *testing.T) {
	ints := []int{math.MinInt, -1, 0, 1, 2, 3, 6, 9, 12, 120, 121, 45656, api.LastDay - 1, api.LastDay, api.LastDay + 1, math.MaxInt}
	rates := []float32{0, float32(minus), 0.05, -0.05, 1, -1, 1e30, greatest32, -greatest32, 0x1p-149, float32(inf), -float32(inf), float32(nan)}
	calendars := []api.Calendar{{}, week(), {Weekend: 126}, closed(), odd(), tooMany()}
	state := uint64(1691)
	any := func() int { return ints[below(&state, len(ints))] }
	for range 1500 {
		base := []int{any(), 100}[below(&state, 2)]
		var q []api.Quote
		end := base
		for range below(&state, 4) {
			end += 1 + below(&state, 400)
			x := api.Quote{Kind: 1 + below(&state, 2), End: end, Count: 1 + below(&state, 6), Rate: rates[below(&state, 6)]}
			if x.Kind == api.QSwap {
				x.N = 1 + below(&state, 12)
			}
			switch below(&state, 20) {
			case 0:
				x.Kind = any()
			case 1:
				x.End = any()
			case 2:
				x.N = any()
			case 3:
				x.Rate = rates[below(&state, len(rates))]
			}
			q = append(q, x)
		}
		var l []api.Flow
		for range below(&state, 3) {
			l = append(l, f([]int{any(), 110}[below(&state, 2)], []float64{1, -5, greatest, least, nan}[below(&state, 5)], 1+below(&state, 2)))
		}
		kind := 1 + below(&state, 4)
		if below(&state, 20) == 0 {
			kind = any()
		}
		cur := 1 + below(&state, 2)
		if below(&state, 20) == 0 {
			cur = any()
		}
		k := calendars[below(&state, 2)]
		if below(&state, 8) == 0 {
			k = calendars[below(&state, len(calendars))]
		}
		h := rates[below(&state, len(rates))]
		checkQuotes(t, l, cur, base, kind, k, q, h, stepQuotes(l, cur, base, kind, k, q, h))
	}
}

// Promise 16.9 and rule 3 of DOC.md: what is given stays as it was, its spare room too, and is not kept; lists are new memory.
func TestQuotesMemory(t *testing.T) {
	flows := []api.Flow{pay(50, 4), pay(700, 8), f(10, 1, 2), pay(70, 77), f(71, 78, 78)}
	quotes := []api.Quote{deposit(360, api.DOpen, 0.25), swap(720, api.D360, 3, 0.1), deposit(9, 9, 9), deposit(8, 8, 8)}
	rules := append(week().Rules, api.Rule{Kind: 77}, api.Rule{Kind: 78})
	for _, kind := range kinds() {
		l, q := slices.Clone(flows)[:3], slices.Clone(quotes)[:2]
		k := api.Calendar{Weekend: 96, Rules: slices.Clone(rules)[:1]}
		want := stepQuotes(l, 1, 0, kind, k, q, 0.01)
		first, _ := risk.Quotes(l, 1, 0, kind, k, q, 0.01)
		second, e := risk.Quotes(l, 1, 0, kind, k, q, 0.01)
		clear(first[:cap(first)])
		if !slices.Equal(l[:5], flows) || !slices.Equal(q[:4], quotes) || !slices.Equal(k.Rules[:3], rules) {
			t.Errorf("kind %d: what was given is %v, %v, %v", kind, l[:5], q[:4], k.Rules[:3])
		}
		clear(l[:5])
		clear(q[:4])
		clear(k.Rules[:3])
		if !list(second, e).is(want) {
			t.Errorf("kind %d: the answer is %x, %v, not %x", kind, second, e, want.l)
		}
	}
}
