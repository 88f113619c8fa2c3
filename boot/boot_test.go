package boot_test

import (
	"math"
	"slices"
	"testing"

	"tenor/api"
	"tenor/boot"
	"tenor/curve"
	"tenor/ieee"
)

// checkCheck holds one answer of Check.
func checkCheck(t *testing.T, base, kind int, k api.Calendar, l []api.Quote, want api.Errno, at int) {
	t.Helper()
	if e, place := boot.Check(base, kind, k, l); e != want || place != at {
		t.Errorf("Check(%d, %d, %v, %v) is %v, %d, not %v, %d", base, kind, k, l, e, place, want, at)
	}
}

// checkWorth holds one answer of Worth.
func checkWorth(t *testing.T, c api.Curve, k api.Calendar, q api.Quote, want value) {
	t.Helper()
	if got := told(boot.Worth(c, k, q)); !got.is(want) {
		t.Errorf("Worth(%v, %v, %v) is %x, %v, not %x, %v", c, k, q, got.x, got.e, want.x, want.e)
	}
}

// checkBuild holds one answer of Build.
func checkBuild(t *testing.T, base, kind int, k api.Calendar, l []api.Quote, want built) {
	t.Helper()
	if got := made(boot.Build(base, kind, k, l)); !got.is(want) {
		t.Errorf("Build(%d, %d, %v, %v) is %x, %v, %d, not %x, %v, %d", base, kind, k, l, got.c.Factors, got.e, got.at, want.c.Factors, want.e, want.at)
	}
}

// refused holds that Check and Build tell that error and place.
func refused(t *testing.T, base, kind int, k api.Calendar, l []api.Quote, want api.Errno, at int) {
	t.Helper()
	checkCheck(t, base, kind, k, l, want, at)
	checkBuild(t, base, kind, k, l, wrong(want, at))
}

// market is quotes from 2025-01-01 on.
func market() (int, []api.Quote) {
	return 45656, []api.Quote{
		deposit(45687, api.D360, 0.0431),
		deposit(45746, api.DOpen, 0.0427),
		deposit(45837, api.DAct, 0.042),
		swap(46021, api.DEuro, 3, 0.0409),
		swap(46386, api.DBond, 6, 0.0386),
		swap(47499, api.D365, 12, 0.0375),
		swap(49308, api.D360, 6, 0.0391),
		swap(56613, api.DAct, 120, 0.0417),
	}
}

// many is n quotes that may be, from the base 7 on.
func many(n int) []api.Quote {
	var l []api.Quote
	for i := range n {
		l = append(l, deposit(8+3*i, api.D365, 0.02))
	}
	return l
}

// The chapter's examples.
func TestExamples(t *testing.T) {
	q := deposit(360, api.D360, 0.25)
	checkBuild(t, 0, api.ILinear, api.Calendar{}, []api.Quote{q}, built{c: api.Curve{Kind: api.ILinear, Days: []int{360}, Factors: []float64{0.8}}})
	checkBuild(t, 0, api.ILinear, api.Calendar{}, []api.Quote{q, q}, wrong(api.ErrOrder, 1))
	checkBuild(t, 0, api.ILinear, api.Calendar{}, []api.Quote{deposit(360, api.D360, -2)}, wrong(api.ErrBracket, 0))
	checkBuild(t, 0, api.ILinear, api.Calendar{}, nil, wrong(api.ErrNodes, -1))
}

// Promises 13.1 and 13.2: what may be.
func TestCheckTakes(t *testing.T) {
	for _, kind := range kinds() {
		for _, n := range []int{1, 2, 63, 64} {
			checkCheck(t, 7, kind, api.Calendar{}, many(n), api.OK, 0)
		}
		base, l := market()
		checkCheck(t, base, kind, week(), l, api.OK, 0)
		for _, q := range []api.Quote{
			deposit(1, api.D360, 0), deposit(api.LastDay, api.DOpen, -greatest32), deposit(9, api.DAct, greatest32), deposit(9, api.DBond, float32(math.Copysign(0, -1))),
			swap(1, api.D360, 1, 0), swap(api.LastDay, api.DOpen, 120, greatest32), swap(api.LastDay, api.DEuro, 1, 0x1p-149), swap(2, api.D365, 119, -7),
		} {
			checkCheck(t, 0, kind, week(), []api.Quote{q}, api.OK, 0)
		}
		checkCheck(t, api.LastDay-1, kind, week(), []api.Quote{deposit(api.LastDay, api.D365, 0.1)}, api.OK, 0)
		checkCheck(t, 0, kind, api.Calendar{Weekend: 126, Rules: slices.Repeat(week().Rules, api.MaxRules)}, many(1), api.OK, 0)
	}
	for _, days := range counts() {
		checkCheck(t, 0, api.IFlat, week(), []api.Quote{deposit(3, days, 1), swap(4, days, 1, 1)}, api.OK, 0)
	}
}

// Promise 13.2: what is wrong beside the quotes, the first of several.
func TestCheckFrame(t *testing.T) {
	noDays := []int{math.MinInt, -1, api.LastDay + 1, math.MaxInt}
	noKinds := []int{math.MinInt, -1, 0, 5, 256 + api.IFlat, 1<<32 + api.ILog, math.MaxInt}
	lists := [][]api.Quote{many(2), nil, {}, many(65), make([]api.Quote, 65), make([]api.Quote, 64), make([]api.Quote, 1)}
	calendars := []api.Calendar{{}, week(), closed(), odd(), tooMany()}
	for _, l := range lists {
		for _, k := range calendars {
			for _, base := range noDays {
				refused(t, base, api.ILinear, k, l, api.ErrRange, -1)
				refused(t, base, 0, k, l, api.ErrRange, -1)
			}
			for _, kind := range noKinds {
				refused(t, 7, kind, k, l, api.ErrKind, -1)
				refused(t, api.LastDay, kind, k, l, api.ErrKind, -1)
			}
		}
		for _, kind := range kinds() {
			refused(t, 7, kind, closed(), l, api.ErrCal, -1)
			refused(t, 7, kind, odd(), l, api.ErrCal, -1)
			refused(t, 7, kind, api.Calendar{Weekend: -1}, l, api.ErrCal, -1)
			refused(t, 7, kind, tooMany(), l, api.ErrLong, -1)
		}
	}
	for _, kind := range kinds() {
		for _, n := range []int{65, 66, 1000} {
			refused(t, 7, kind, week(), many(n), api.ErrLong, -1)
			refused(t, 7, kind, week(), make([]api.Quote, n), api.ErrLong, -1)
		}
		refused(t, 7, kind, week(), nil, api.ErrNodes, -1)
		refused(t, 7, kind, week(), []api.Quote{}, api.ErrNodes, -1)
		refused(t, 0, kind, api.Calendar{}, many(3)[:0], api.ErrNodes, -1)
	}
}

// badQuote is a quote that may not be behind a day from 0 to 7, and why.
type badQuote struct {
	q api.Quote
	e api.Errno
}

// badQuotes is quotes that may not be, in each way alone and in several, with the first error.
func badQuotes() []badQuote {
	bad := []badQuote{{api.Quote{}, api.ErrQuote}}
	for _, kind := range []int{math.MinInt, -1, 0, 3, 256 + api.QSwap, 1<<32 + api.QDeposit, math.MaxInt} {
		for _, n := range []int{0, 1, 3} {
			bad = append(bad, badQuote{api.Quote{Kind: kind, End: 1000, Count: api.D365, N: n, Rate: 0.1}, api.ErrQuote})
		}
	}
	for _, n := range []int{math.MinInt, -1, 1, 120, 1 << 32, math.MaxInt} {
		bad = append(bad, badQuote{api.Quote{Kind: api.QDeposit, End: 1000, Count: api.D365, N: n, Rate: 0.1}, api.ErrQuote})
	}
	for _, n := range []int{math.MinInt, -1, 0, 121, 1200, 1<<32 + 1, math.MaxInt} {
		bad = append(bad, badQuote{swap(1000, api.D365, n, 0.1), api.ErrQuote}, badQuote{swap(-1, 0, n, 0.1), api.ErrQuote})
	}
	for _, r := range []float32{nan, inf, -inf, math.Float32frombits(0xff800001), math.Float32frombits(0x7fffffff)} {
		bad = append(bad, badQuote{deposit(1000, api.D365, r), api.ErrQuote}, badQuote{swap(1000, api.D365, 1, r), api.ErrQuote})
		bad = append(bad, badQuote{deposit(1000, 0, r), api.ErrQuote}, badQuote{swap(0, 9, 1, r), api.ErrQuote})
	}
	for _, n := range []int{math.MinInt, -1, 0, 7, 256 + api.D360, 1<<32 + api.DOpen, math.MaxInt} {
		bad = append(bad, badQuote{deposit(1000, n, 0.1), api.ErrCount}, badQuote{swap(1000, n, 1, 0.1), api.ErrCount}, badQuote{swap(0, n, 1, 0.1), api.ErrCount})
	}
	for _, end := range []int{math.MinInt, -1, 0, api.LastDay + 1, math.MaxInt} {
		bad = append(bad, badQuote{deposit(end, api.D365, 0.1), api.ErrOrder}, badQuote{swap(end, api.DOpen, 120, 0.1), api.ErrOrder})
	}
	return bad
}

// Promises 13.1 and 13.2: quotes that may not be: the first one's error and its place, whatever stands behind it.
func TestCheckQuotes(t *testing.T) {
	for i, b := range badQuotes() {
		kind := kinds()[i%4]
		for _, ahead := range []int{0, 1, 2, 63} {
			l := append(many(ahead), b.q)
			refused(t, 7, kind, week(), l, b.e, ahead)
			if ahead < 63 {
				refused(t, 7, kind, week(), append(l, api.Quote{}), b.e, ahead)
				refused(t, 7, kind, week(), append(l, deposit(5000, api.D365, 0.1)), b.e, ahead)
				refused(t, 7, kind, week(), append(l, deposit(5000, 0, 0.1)), b.e, ahead)
			}
		}
		checkWorth(t, api.Curve{Base: 7, Kind: kind, Days: []int{2000}, Factors: []float64{0.5}}, week(), b.q, value{0, b.e})
	}
}

// Promise 13.2: ends that do not rise from the base on.
func TestCheckOrder(t *testing.T) {
	for _, c := range []struct {
		base int
		ends []int
		at   int
	}{
		{100, []int{100}, 0}, {100, []int{99}, 0}, {100, []int{0}, 0}, {100, []int{99, 101}, 0}, {100, []int{101, 101}, 1}, {100, []int{102, 101}, 1}, {100, []int{101, 100}, 1},
		{100, []int{101, 102, 102}, 2}, {100, []int{101, 105, 103, 110}, 2}, {100, []int{101, 102, 103, 103, 103}, 3}, {100, []int{101, -5, 102}, 1},
		{0, []int{0}, 0}, {api.LastDay, []int{api.LastDay}, 0}, {api.LastDay, []int{api.LastDay + 1}, 0}, {api.LastDay - 1, []int{api.LastDay, api.LastDay + 1}, 1},
	} {
		for _, kind := range kinds() {
			var l []api.Quote
			for i, end := range c.ends {
				q := deposit(end, api.D365, 0.1)
				if i%2 == 1 {
					q = swap(end, api.D365, 1, 0.1)
				}
				l = append(l, q)
			}
			refused(t, c.base, kind, week(), l, api.ErrOrder, c.at)
		}
	}
	// A quote that could not be met is no fault of what is built of.
	checkCheck(t, 0, api.ILinear, week(), []api.Quote{deposit(360, api.D360, -2), swap(api.LastDay, api.D360, 1, 3)}, api.OK, 0)
}

// known is a curve from 2025-01-01 on.
func known(kind int) api.Curve {
	const b = 45656
	return api.Curve{Base: b, Kind: kind, Days: []int{b + 31, b + 181, b + 365, b + 1096, b + 3652}, Factors: []float64{0.9964, 0.9791, 0.9592, 0.8850, 0.6803}}
}

// Promise 13.3: the bits, reckoned elsewhere: IFlat, ILinear, ICubic, ILog.
func TestWorthKnown(t *testing.T) {
	const b = 45656
	for _, x := range []struct {
		q    api.Quote
		want [4]float64
	}{
		{deposit(b+31, api.D360, 0.0431), [4]float64{0x1.9b28976cbp-14, 0x1.9b28976cbp-14, 0x1.9b28976cbp-14, 0x1.9b28976cbp-14}},
		{deposit(b+90, api.D365, 0.0427), [4]float64{0x1.c39981c06d8p-8, 0x1.e84a31492p-17, -0x1.89318db0c4p-15, -0x1.7127e2412p-16}},
		{deposit(b+200, api.DAct, 0.042), [4]float64{0x1.ac0173011bp-10, -0x1.ec465fca51p-12, -0x1.15da0fa718cp-11, -0x1.004ff5f1fa8p-11}},
		{deposit(b+1000, api.DBond, -0.3), [4]float64{-0x1.a8d3f29187081p-1, -0x1.aeaf8600e07eap-1, -0x1.aec4857e4307cp-1, -0x1.aeb75f5158ea4p-1}},
		{deposit(b+59, api.DEuro, 7.5), [4]float64{0x1.3ded288ce703ap+0, 0x1.3c10f94c8798p+0, 0x1.3c0d91625bad2p+0, 0x1.3c0d936ceaf3ep+0}},
		{deposit(b+3000, api.DOpen, 1e-07), [4]float64{-0x1.d709736a4786p-4, -0x1.11e72197aa5eep-2, -0x1.1319eb1a73058p-2, -0x1.170607653bb0ap-2}},
		{deposit(b+3652, api.D360, 1e+30), [4]float64{0x1.5c6cc49f44ad1p+102, 0x1.5c6cc49f44ad1p+102, 0x1.5c6cc49f44ad1p+102, 0x1.5c6cc49f44ad1p+102}},
		{swap(b+365, api.D360, 3, 0.0409), [4]float64{-0x1.e1c98c04e9d29p-13, -0x1.a6e714fbfc29ap-12, -0x1.a94b77f67fe03p-12, -0x1.a7d9af7675159p-12}},
		{swap(b+366, api.D365, 12, 0.0411), [4]float64{-0x1.4b6c44d1555aap-10, -0x1.6720fc3a81d23p-10, -0x1.68025e03eb704p-10, -0x1.6841e6542affbp-10}},
		{swap(b+1096, api.DAct, 6, 0.0386), [4]float64{-0x1.3ff34b379a73p-8, -0x1.cc6afa5d19f5bp-8, -0x1.d0cf89752450bp-8, -0x1.cec8702dd5d44p-8}},
		{swap(b+2000, api.DBond, 1, 0.0375), [4]float64{0x1.383e7c51ad9ffp-4, -0x1.734cbbaa4a162p-9, -0x1.b7e50aaab4982p-8, -0x1.35b8da1f72bcfp-7}},
		{swap(b+3652, api.DEuro, 12, 0.0391), [4]float64{0x1.baf08068a71e6p-6, -0x1.59d05c67c8b17p-10, -0x1.f591d1e6408e5p-10, -0x1.4e3d47520466fp-9}},
		{swap(b+3651, api.DOpen, 6, 0.0417), [4]float64{0x1.1c6c3774f766p-2, 0x1.20b282d7b7d03p-5, 0x1.1b205f85a0c1dp-5, 0x1.153ea368a8f76p-5}},
		{swap(b+1, api.D360, 120, 0.05), [4]float64{0x1.234567d27d27dp-13, 0x1.7d93933a953fcp-16, 0x1.7d5e0a9a40042p-16, 0x1.7a2c923e24fd2p-16}},
		{swap(b+3652, api.D365, 120, -0.02), [4]float64{-0x1.d2c64ad91b64dp-2, -0x1.d2c64ad91b64dp-2, -0x1.d2c64ad91b64dp-2, -0x1.d2c64ad91b64dp-2}},
		{swap(b+500, api.DBond, 7, 1e+20), [4]float64{0x1.d04d38343db69p+66, 0x1.cad3ec5290034p+66, 0x1.caaf9645d91d8p+66, 0x1.cab946f096dacp+66}},
		{swap(b+730, api.DEuro, 12, 0), [4]float64{-0x1.4e3bcd35a858p-5, -0x1.3ededa47c6e5p-4, -0x1.448d313dd262p-4, -0x1.41edc84529fd8p-4}},
	} {
		for i, kind := range kinds() {
			checkWorth(t, known(kind), api.Calendar{Weekend: 96}, x.q, value{x.want[i], api.OK})
		}
	}
}

// Promise 13.3: by hand, where a step more or less would be seen.
func TestWorthHand(t *testing.T) {
	at := func(f float64) api.Curve { return api.Curve{Kind: api.IFlat, Days: []int{360}, Factors: []float64{f}} }
	for _, x := range []struct {
		c    api.Curve
		q    api.Quote
		want float64
	}{
		{at(1), deposit(360, api.D360, 0), 0},
		{at(1), swap(360, api.D360, 120, 0), 0},
		{at(0.5), deposit(360, api.D360, 1), 0},
		{at(0.5), swap(360, api.D360, 120, 1), 0},
		{at(0.5), deposit(360, api.D360, -1), -1},
		{at(0.5), swap(360, api.D360, 120, -1), -1},
		{at(0x1p1023), deposit(360, api.D360, -1), -1},
		// The deposit's 1 swallows a small rate, the swap's sum does not; 1 taken from a small number swallows that.
		{at(1), deposit(360, api.D360, 0x1p-60), 0},
		{at(1), swap(360, api.D360, 120, 0x1p-60), 0x1p-60},
		{at(1), swap(360, api.D360, 120, 0x1p-149), 0x1p-149},
		{at(0x1p-1074), deposit(360, api.D360, 0.5), -1},
		{at(0x1p-1074), swap(360, api.D360, 120, 0.5), -1},
		// A product is rounded ahead of the difference: (1 + 2^-52) (1 + 2^-23) and (1 - 2^-53) 1.5.
		{at(1 + 0x1p-52), deposit(360, api.D360, 0x1p-23), 0x1.00000008p-23},
		{at(1 + 0x1p-52), swap(360, api.D360, 120, 0x1p-23), 0x1.0000000800001p-23},
		{at(1 - 0x1p-53), deposit(360, api.D360, 0.5), 0.5 - 0x1p-52},
		{at(1 - 0x1p-53), swap(360, api.D360, 120, 0.5), 0.5 - 0x1.8p-53},
		// What is too great for a step is an infinity, of a sum only if it is so in all.
		{at(0x1p1023), deposit(360, api.D360, 1), math.Inf(1)},
		{at(0x1p1023), deposit(360, api.D360, -3), math.Inf(-1)},
		{at(0x1p1023), swap(360, api.D360, 120, 1), math.Inf(1)},
		{at(0x1p1023), swap(360, api.D360, 120, -3), math.Inf(-1)},
		{at(0x1p1023), swap(360, api.D360, 120, -2), -0x1p1023},
		// Two payments that would be infinities by themselves.
		{api.Curve{Kind: api.IFlat, Days: []int{31, 59}, Factors: []float64{0x1p1023, 0x1p1023}}, swap(59, api.DBond, 1, 0), 0x1p1023},
	} {
		checkWorth(t, x.c, api.Calendar{}, x.q, value{x.want, api.OK})
	}
}

// Promise 13.3, and W1 of it.
func TestWorthSteps(t *testing.T) {
	state := uint64(133)
	for _, kind := range kinds() {
		worths, beyond := 0, 0
		for range 1500 {
			c := someCurve(&state, kind)
			last := c.Days[len(c.Days)-1]
			end := min(c.Base+1+below(&state, last-c.Base), api.LastDay)
			if below(&state, 10) == 0 {
				end = min(last+below(&state, 3), api.LastDay)
			}
			q := someQuote(&state, c.Base, end)
			want := stepWorth(c, week(), q)
			checkWorth(t, c, week(), q, want)
			if want.e == api.OK {
				worths++
			} else {
				beyond++
			}
		}
		if worths < 1000 || beyond < 30 {
			t.Errorf("kind %d: only %d worths, %d beyond the curve", kind, worths, beyond)
		}
	}
}

// Promise 13.3: the calendar is that of the count alone; a swap's days do not hang on it.
func TestWorthCalendar(t *testing.T) {
	for _, kind := range kinds() {
		c := known(kind)
		for _, days := range counts() {
			for _, q := range []api.Quote{deposit(c.Base+1000, days, 0.04), swap(c.Base+1000, days, 1, 0.04)} {
				plain := told(boot.Worth(c, api.Calendar{}, q))
				other := told(boot.Worth(c, api.Calendar{Weekend: 126}, q))
				checkWorth(t, c, api.Calendar{}, q, stepWorth(c, api.Calendar{}, q))
				checkWorth(t, c, api.Calendar{Weekend: 126}, q, stepWorth(c, api.Calendar{Weekend: 126}, q))
				if plain.is(other) != (days != api.DOpen) {
					t.Errorf("kind %d, count %d: worth %x, and %x with all but one day closed", kind, days, plain.x, other.x)
				}
			}
		}
	}
}

// Promise 13.3: the errors in their order.
func TestWorthRefusals(t *testing.T) {
	good, bad := deposit(20, api.D365, 0.1), api.Quote{}
	for _, kind := range kinds() {
		c := api.Curve{Base: 7, Kind: kind, Days: []int{20, 30}, Factors: []float64{0.5, 0.25}}
		for _, x := range []struct {
			c    api.Curve
			want api.Errno
		}{
			{api.Curve{Base: -1, Kind: kind, Days: c.Days, Factors: c.Factors}, api.ErrRange},
			{api.Curve{Base: 7, Kind: 5, Days: c.Days, Factors: c.Factors}, api.ErrKind},
			{api.Curve{Base: 7, Kind: kind}, api.ErrNodes},
			{api.Curve{Base: 7, Kind: kind, Days: c.Days, Factors: []float64{0.5, 0}}, api.ErrNodes},
			{api.Curve{Base: 20, Kind: kind, Days: c.Days, Factors: c.Factors}, api.ErrNodes},
			{api.Curve{Base: 7, Kind: kind, Days: c.Days, Factors: []float64{0.5, math.NaN()}}, api.ErrNodes},
		} {
			for _, k := range []api.Calendar{week(), closed(), tooMany()} {
				checkWorth(t, x.c, k, good, value{0, x.want})
				checkWorth(t, x.c, k, bad, value{0, x.want})
			}
		}
		for _, q := range []api.Quote{good, bad, deposit(31, api.DOpen, 0.1), swap(31, api.D360, 1, 0.1)} {
			checkWorth(t, c, closed(), q, value{0, api.ErrCal})
			checkWorth(t, c, odd(), q, value{0, api.ErrCal})
			checkWorth(t, c, tooMany(), q, value{0, api.ErrLong})
		}
		for _, end := range []int{31, 32, 5000, api.LastDay} {
			checkWorth(t, c, week(), deposit(end, api.DOpen, 0.1), value{0, api.ErrRange})
			checkWorth(t, c, week(), swap(end, api.DOpen, 120, 0.1), value{0, api.ErrRange})
		}
		checkWorth(t, c, week(), deposit(31, 0, 0.1), value{0, api.ErrCount})
		checkWorth(t, c, week(), deposit(7, api.D360, 0.1), value{0, api.ErrOrder})
		checkWorth(t, c, week(), swap(6, api.D360, 3, 0.1), value{0, api.ErrOrder})
	}
}

// The days of 2000-01-01 and of 2100-01-01, 1,200 months later, and of the month behind that.
const (
	century  = 36524
	hundred  = century + 36525
	hundred1 = hundred + 31
)

// Promise 13.3: as many payments as a schedule may have, and one more, which is told ahead of a day beyond the curve.
func TestWorthMany(t *testing.T) {
	for _, kind := range kinds() {
		c := api.Curve{Base: century, Kind: kind, Days: []int{hundred, hundred1 + 1}, Factors: []float64{0.25, 0.24}}
		full := swap(hundred, api.DAct, 1, 0.01)
		checkWorth(t, c, week(), full, stepWorth(c, week(), full))
		if w, e := boot.Worth(c, week(), full); e != api.OK || w == 0 {
			t.Errorf("kind %d: Worth of 1200 payments is %x, %v", kind, w, e)
		}
		short := api.Curve{Base: century, Kind: kind, Days: []int{century + 40}, Factors: []float64{0.9}}
		for _, end := range []int{hundred + 1, hundred1, hundred1 + 1} {
			checkWorth(t, c, week(), swap(end, api.DAct, 1, 0.01), value{0, api.ErrMany})
			checkWorth(t, short, week(), swap(end, api.DAct, 1, 0.01), value{0, api.ErrMany})
		}
		checkWorth(t, short, week(), full, value{0, api.ErrRange})
		checkWorth(t, short, week(), swap(hundred1, api.DAct, 2, 0.01), value{0, api.ErrRange})
	}
}

// Promise 13.4: the bits, reckoned elsewhere.
func TestBuildKnown(t *testing.T) {
	base, l := market()
	for i, want := range [][]float64{
		{0x1.fe1b56f05db2ap-1, 0x1.fa81d88f1fad2p-1, 0x1.f58dced17acf8p-1, 0x1.eb89c7fd927dep-1, 0x1.da31d640eceecp-1, 0x1.a76663152d91dp-1, 0x1.4e893a80399b9p-1, 0x1.48dc04e66eaa1p-2},
		{0x1.fe1b56f05db2ap-1, 0x1.fa81d88f1fad2p-1, 0x1.f58dced17acf8p-1, 0x1.eb96b118b5343p-1, 0x1.da5ac6098eb74p-1, 0x1.a93e7d8627dbbp-1, 0x1.589f6d0d0f35cp-1, 0x1.6cbda4cb0db21p-2},
		{0x1.fe1b56f05db2ap-1, 0x1.fa81d88f1fad2p-1, 0x1.f58dced17acf8p-1, 0x1.eb96b328e48ap-1, 0x1.da5b7d0191e9p-1, 0x1.a942640d88db5p-1, 0x1.58a1702f66a6bp-1, 0x1.703ae6ab25b6cp-2},
		{0x1.fe1b56f05db2ap-1, 0x1.fa81d88f1fad2p-1, 0x1.f58dced17acf8p-1, 0x1.eb96c198306ffp-1, 0x1.da5b2410f3524p-1, 0x1.a9499d3b9c3f1p-1, 0x1.58e97fac4aabdp-1, 0x1.72d136eead81bp-2},
	} {
		c := api.Curve{Base: base, Kind: kinds()[i], Factors: want}
		for _, q := range l {
			c.Days = append(c.Days, q.End)
		}
		checkBuild(t, base, c.Kind, api.Calendar{Weekend: 96}, l, built{c: c})
	}
}

// Promise 13.7: deposits alone, reckoned elsewhere; the interpolation makes nothing.
func TestBuildDeposit(t *testing.T) {
	ends := [6]int{360, 365, 100, 59, 31, 9}
	for _, x := range []struct {
		rate float32
		want [6]float64
	}{
		{0.25, [6]float64{0x1.999999999999ap-1, 0x1.999999999999ap-1, 0x1.df2df2df2df2ep-1, 0x1.eb851eb851eb8p-1, 0x1.f58d0fac687d7p-1, 0x1.fc780e1fc780ep-1}},
		{0, [6]float64{1, 1, 1, 1, 1, 1}},
		{-0.5, [6]float64{2, 2, 0x1.28a28a28a28a3p+0, 0x1.1745d1745d175p+0, 0x1.0b21642c8590bp+0, 0x1.039b0ad120736p+0}},
		{1, [6]float64{0.5, 0.5, 0x1.91e4791e4791ep-1, 0x1.b6db6db6db6dbp-1, 0x1.d89d89d89d89ep-1, 0x1.f22983759f22ap-1}},
		{1e-9, [6]float64{0x1.fffffff768fap-1, 0x1.fffffff768fap-1, 0x1.fffffffda5873p-1, 0x1.fffffffe917fp-1, 0x1.ffffffff48bf8p-1, 0x1.ffffffffc2ea8p-1}},
		{-0.999, [6]float64{0x1.f401a5e163f63p+9, 0x1.f401a5e163f63p+9, 0x1.607884375f16ap+0, 0x1.332379866e91p+0, 0x1.173f51c56548ap+0, 0x1.074e8801192b7p+0}},
		{0.03, [6]float64{0x1.f1165e77c26b5p-1, 0x1.f1165e77c26b5p-1, 0x1.fbd37a70db57ap-1, 0x1.fd73e687f4982p-1, 0x1.feb9231d34ae9p-1, 0x1.ff92dd419939ap-1}},
		{1e6, [6]float64{0x1.0c6f6873c67edp-20, 0x1.0c6f6873c67edp-20, 0x1.e9e496587527ap-19, 0x1.92a698bce6fc9p-18, 0x1.92a5fa693c374p-17, 0x1.2dfaa0d792aa5p-15}},
		{0.7, [6]float64{0x1.2d2d2d509be74p-1, 0x1.2d2d2d509be74p-1, 0x1.ad9bf44e9a4cp-1, 0x1.ca81e920ca909p-1, 0x1.e3c78f25dad3ep-1, 0x1.f63bfd3872b99p-1}},
	} {
		for i, days := range counts() {
			for _, kind := range kinds() {
				want := api.Curve{Kind: kind, Days: []int{ends[i]}, Factors: []float64{x.want[i]}}
				checkBuild(t, 0, kind, api.Calendar{Weekend: 96}, []api.Quote{deposit(ends[i], days, x.rate)}, built{c: want})
			}
		}
	}
}

// Promise 13.4: a factor at either end of what is tried, and the first rates beyond them.
func TestBuildEnds(t *testing.T) {
	// 77 years by D360, of which the rate makes 2^30 - 1; and a rate of which one year leaves 2^-10.
	low, high := deposit(27720, api.D360, 13944699), deposit(360, api.D360, -(1-0x1p-10))
	for _, kind := range kinds() {
		for _, months := range []int{0, 120} {
			at := func(q api.Quote, rate float32) []api.Quote {
				q.Rate = rate
				if months > 0 {
					q.Kind, q.N = api.QSwap, months
				}
				return []api.Quote{q}
			}
			if months == 0 {
				checkBuild(t, 0, kind, week(), at(low, low.Rate), built{c: api.Curve{Kind: kind, Days: []int{27720}, Factors: []float64{0x1p-30}}})
				checkBuild(t, 0, kind, week(), at(low, 13944700), wrong(api.ErrBracket, 0))
				checkBuild(t, 0, kind, week(), at(low, 13944698), stepBuild(0, kind, week(), at(low, 13944698)))
			}
			checkBuild(t, 0, kind, week(), at(high, high.Rate), built{c: api.Curve{Kind: kind, Days: []int{360}, Factors: []float64{0x1p10}}})
			checkBuild(t, 0, kind, week(), at(high, math.Nextafter32(high.Rate, -1)), wrong(api.ErrBracket, 0))
			inside := at(high, math.Nextafter32(high.Rate, 0))
			checkBuild(t, 0, kind, week(), inside, stepBuild(0, kind, week(), inside))
			checkBuild(t, 0, kind, week(), at(high, -1), wrong(api.ErrBracket, 0))
			checkBuild(t, 0, kind, week(), at(high, greatest32), wrong(api.ErrBracket, 0))
			checkBuild(t, 0, kind, week(), at(high, -greatest32), wrong(api.ErrBracket, 0))
		}
	}
}

// Promise 13.4: each trial is Worth of the quote on the curve with the trial factor.
func TestBuildSteps(t *testing.T) {
	state := uint64(134)
	for _, kind := range kinds() {
		curves, brackets := 0, 0
		for range 250 {
			base, l := someQuotes(&state)
			want := stepBuild(base, kind, week(), l)
			checkBuild(t, base, kind, week(), l, want)
			if want.e == api.OK {
				curves++
			} else {
				brackets++
			}
		}
		if curves < 100 || brackets < 5 {
			t.Errorf("kind %d: only %d curves, %d without a bracket", kind, curves, brackets)
		}
	}
}

// Promise 13.4: as many quotes as may be, of many payments each.
func TestBuildFull(t *testing.T) {
	var l []api.Quote
	for i := range api.MaxQuotes {
		l = append(l, swap(century+100+i*150, 1+i%6, 3+i%4*3, 0.03+float32(i%7)/512))
	}
	for _, kind := range kinds() {
		want := stepBuild(century, kind, week(), l)
		if want.e != api.OK || len(want.c.Days) != api.MaxQuotes {
			t.Errorf("kind %d: the steps tell %v, %d", kind, want.e, want.at)
		}
		checkBuild(t, century, kind, week(), l, want)
	}
}

// Promise 13.4: what stands in the way of a quote's node is told with its place, of several the first quote's; what Check tells comes ahead.
func TestBuildRefusals(t *testing.T) {
	good := deposit(century+90, api.D365, 0.03)
	none := deposit(century+180, api.D360, -20)
	long := swap(hundred1, api.D365, 1, 0.002)
	for _, kind := range kinds() {
		for _, x := range []struct {
			l    []api.Quote
			want api.Errno
			at   int
		}{
			{[]api.Quote{none}, api.ErrBracket, 0},
			{[]api.Quote{good, none}, api.ErrBracket, 1},
			{[]api.Quote{long}, api.ErrMany, 0},
			{[]api.Quote{good, long}, api.ErrMany, 1},
			{[]api.Quote{good, none, long}, api.ErrBracket, 1},
			{[]api.Quote{none, long}, api.ErrBracket, 0},
			{[]api.Quote{long, deposit(hundred1+1, api.D360, -2)}, api.ErrMany, 0},
			{[]api.Quote{none, none}, api.ErrOrder, 1},
			{[]api.Quote{long, {}}, api.ErrQuote, 1},
			{[]api.Quote{good, none, deposit(century+200, 7, 1)}, api.ErrCount, 2},
		} {
			checkBuild(t, century, kind, week(), x.l, wrong(x.want, x.at))
		}
		full := []api.Quote{good, swap(hundred, api.D365, 1, 0.002)}
		want := stepBuild(century, kind, week(), full)
		if want.e != api.OK {
			t.Errorf("kind %d: the steps tell %v, %d", kind, want.e, want.at)
		}
		checkBuild(t, century, kind, week(), full, want)
	}
}

// signed is -1, 0 or 1.
func signed(x float64) int {
	switch {
	case x < 0:
		return -1
	case x > 0:
		return 1
	}
	return 0
}

// meets holds W6 of the quote on the curve whose last node is its own.
func meets(t *testing.T, c api.Curve, k api.Calendar, q api.Quote) {
	t.Helper()
	f := c.Factors[len(c.Factors)-1]
	here, e := boot.Worth(c, k, q)
	if e != api.OK || f < 0x1p-30 || f > 0x1p10 {
		t.Errorf("Worth(%v, %v) is %v, %v", c, q, here, e)
	}
	if here == 0 {
		return
	}
	up := ieee.Up(f)
	next := c
	next.Factors = slices.Concat(c.Factors[:len(c.Factors)-1], []float64{up})
	there, e := boot.Worth(next, k, q)
	if e != api.OK || up > 0x1p10 || signed(there) == signed(here) {
		t.Errorf("%v of %v is worth %x at %x and %x at %x, %v", q, c.Days, here, f, there, up, e)
	}
}

// Promises 13.5 and 13.6: each quote is met by its node; the first nodes are those of the first quotes alone.
func TestBuildMeets(t *testing.T) {
	state := uint64(135)
	for _, kind := range kinds() {
		nodes := 0
		for range 120 {
			base, l := someQuotes(&state)
			c, e, at := boot.Build(base, kind, week(), l)
			if e != api.OK {
				l = l[:at]
				c, e, at = boot.Build(base, kind, week(), l)
				if at == -1 {
					continue
				}
			}
			if e != api.OK || at != 0 || len(c.Days) != len(l) || curve.Check(c) != api.OK {
				t.Errorf("Build(%d, %d, %v) is %v, %v, %d", base, kind, l, c, e, at)
				continue
			}
			for i, q := range l {
				part := api.Curve{Base: base, Kind: kind, Days: c.Days[:i+1], Factors: c.Factors[:i+1]}
				meets(t, part, week(), q)
				checkBuild(t, base, kind, week(), l[:i+1], built{c: part})
				nodes++
			}
		}
		if nodes < 300 {
			t.Errorf("kind %d: only %d nodes", kind, nodes)
		}
	}
}

// Promise 13.8: whatever is given, every call ends and none panics.
func TestAnything(t *testing.T) {
	ints := []int{math.MinInt, -1, 0, 1, 2, 3, 4, 5, 6, 7, 100, 120, 121, 1000, api.LastDay - 1, api.LastDay, api.LastDay + 1, math.MaxInt}
	rates := []float32{0, nan, inf, -inf, 0.1, -0.1, -2, greatest32, -greatest32, 0x1p-149}
	factors := []float64{0, 0x1p-1074, 0x1p-30, 0.5, 1, 0x1p10, math.MaxFloat64, math.Inf(1), math.NaN(), -1}
	state := uint64(138)
	any := func() int { return ints[below(&state, len(ints))] }
	small := func(n int) int {
		if below(&state, 12) == 0 {
			return any()
		}
		return below(&state, n)
	}
	for range 6000 {
		k := []api.Calendar{{}, {}, week(), week(), closed(), odd(), tooMany()}[below(&state, 7)]
		var l []api.Quote
		for range below(&state, 4) {
			l = append(l, api.Quote{Kind: small(3), End: any(), Count: small(7), N: any(), Rate: rates[below(&state, len(rates))]})
		}
		base, kind := small(9), small(5)
		want, place := boot.Check(base, kind, k, l)
		c, e, at := boot.Build(base, kind, k, l)
		if want != api.OK && (e != want || at != place) || e != api.OK && !sameCurve(c, api.Curve{}) {
			t.Errorf("Check(%d, %d, %v, %v) is %v, %d, but Build %v, %v, %d", base, kind, k, l, want, place, c, e, at)
		}
		some := api.Curve{Base: base, Kind: kind, Days: []int{10, any()}, Factors: []float64{factors[below(&state, len(factors))], factors[below(&state, len(factors))]}}
		for _, q := range l {
			if w, e := boot.Worth(some, k, q); e != api.OK && math.Float64bits(w) != 0 || math.IsNaN(w) {
				t.Errorf("Worth(%v, %v, %v) is %x, %v", some, k, q, w, e)
			}
		}
	}
}

// DOC.md, rules 3 and 8, and promise 13.8: what is given stays as it was, its spare room too; what is told is new memory; nothing is kept.
func TestMemory(t *testing.T) {
	base, l := market()
	k := week()
	spare := append(slices.Clone(l), api.Quote{Kind: 77}, api.Quote{Kind: 78})
	given := slices.Clone(spare)
	for _, kind := range kinds() {
		a := made(boot.Build(base, kind, k, given[:len(l)]))
		boot.Check(base, kind, k, given[:len(l)])
		c := api.Curve{Base: base, Kind: kind, Days: slices.Clone(append(a.c.Days, 1, 2)), Factors: slices.Clone(append(a.c.Factors, 3, 4))}
		days, factors := slices.Clone(c.Days), slices.Clone(c.Factors)
		short := api.Curve{Base: base, Kind: kind, Days: c.Days[:len(l)], Factors: c.Factors[:len(l)]}
		for _, q := range l {
			boot.Worth(short, k, q)
		}
		if !slices.Equal(c.Days, days) || !slices.Equal(c.Factors, factors) {
			t.Errorf("kind %d: Worth changes the curve", kind)
		}
		wipe(a.c)
		b := made(boot.Build(base, kind, k, l))
		if !b.is(stepBuild(base, kind, k, l)) {
			t.Errorf("kind %d: a second Build is %v", kind, b)
		}
	}
	if !slices.Equal(given, spare) || !slices.Equal(k.Rules, week().Rules) {
		t.Errorf("the quotes are %v, the rules %v", given, k.Rules)
	}
}

// wipe writes over a curve, its spare room too.
func wipe(c api.Curve) {
	days, factors := c.Days[:cap(c.Days)], c.Factors[:cap(c.Factors)]
	for i := range days {
		days[i] = -1
	}
	for i := range factors {
		factors[i] = -1
	}
}
