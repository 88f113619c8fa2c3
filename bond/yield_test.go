package bond_test

import (
	"math"
	"slices"
	"testing"

	"tenor/acc"
	"tenor/api"
	"tenor/bond"
	"tenor/flow"
	"tenor/ieee"
)

// worth, yield and duration are what the calls tell.
func (a asked) worth(y float64) answer {
	return told(bond.Worth(a.l, a.cur, a.kind, a.count, a.base, y))
}

func (a asked) yield(price float64) answer {
	return told(bond.Yield(a.l, a.cur, a.kind, a.count, a.base, price))
}

func (a asked) duration(y, h float64) answer {
	return told(bond.Duration(a.l, a.cur, a.kind, a.count, a.base, y, h))
}

// checkWorth holds one answer of Worth, checkYield one of Yield, checkDuration one of Duration.
func checkWorth(t *testing.T, a asked, y float64, want answer) {
	t.Helper()
	if got := a.worth(y); !got.is(want) {
		t.Errorf("Worth of %v at %x is %x, %v, not %x, %v", a, y, got.x, got.e, want.x, want.e)
	}
}

func checkYield(t *testing.T, a asked, price float64, want answer) {
	t.Helper()
	if got := a.yield(price); !got.is(want) {
		t.Errorf("Yield of %v at %x is %x, %v, not %x, %v", a, price, got.x, got.e, want.x, want.e)
	}
}

func checkDuration(t *testing.T, a asked, y, h float64, want answer) {
	t.Helper()
	if got := a.duration(y, h); !got.is(want) {
		t.Errorf("Duration of %v at %x by %x is %x, %v, not %x, %v", a, y, h, got.x, got.e, want.x, want.e)
	}
}

// simple is what simple rates on flows behind the day 0 are asked of, by days / 360; compound the same by rates that are paid once a year.
func simple(l ...api.Flow) asked { return asked{l, 1, api.KSimple, api.D360, 0} }

func compound(l ...api.Flow) asked { return asked{l, 1, api.KAnnual, api.D360, 0} }

// coupons, uneven and short are lists of the known answers.
func coupons() []api.Flow {
	return []api.Flow{pay(45291, -2.5), pay(45290, 1e9), pay(45412, 2.5), pay(45596, 2.5), f(45777, 7, 2), pay(45778, 2.5), pay(45961, 2.5), pay(46142, 2.5), pay(46326, 102.5)}
}

func uneven() []api.Flow {
	return []api.Flow{pay(45320, 1000), pay(45655, 40), pay(45713, 1e-3), pay(51000, 0.1), pay(46021, 1040)}
}

func short() []api.Flow {
	return []api.Flow{f(45300, 0.1, 3), f(45350, 0.7, 3), f(45600, 1.3, 3)}
}

// Promise 22.3: bits, reckoned elsewhere.
func TestWorthKnown(t *testing.T) {
	coupons, uneven, short := coupons(), uneven(), short()
	for _, x := range []struct {
		l                      []api.Flow
		cur, kind, count, base int
		y, want                float64
	}{
		{coupons, 1, api.KSimple, api.D360, 45290, 0.05, 0x1.8b4ee24533391p+6},
		{short, 3, api.KSimple, api.D365, 45319, 3.9, 0x1.b385881abe1a3p-1},
		{uneven, 1, api.KSimple, api.DAct, 45295, 3.9, 0x1.ca68caf6e5602p+9},
		{coupons, 1, api.KSimple, api.DBond, 45290, 3.9, 0x1.14c7e182829d6p+3},
		{short, 3, api.KSimple, api.DEuro, 45319, 0.05, 0x1.f2f205762d448p+0},
		{short, 3, api.KAnnual, api.D360, 45290, 0.0, 0x1.0cccccccccccdp+1},
		{uneven, 1, api.KAnnual, api.D365, 45319, 0.0, 0x1.04033b645a1cbp+11},
		{coupons, 1, api.KAnnual, api.DAct, 45295, 0.0, 0x1.ccp+6},
		{short, 3, api.KAnnual, api.DBond, 45290, -0.0125, 0x1.0ec67bb3ce5a2p+1},
		{uneven, 1, api.KAnnual, api.DEuro, 45319, -0.0125, 0x1.074011997f4d5p+11},
		{uneven, 1, api.KSemi, api.D360, 45290, 1e-09, 0x1.04033b5fa8fedp+11},
		{coupons, 1, api.KSemi, api.D365, 45319, 1e-09, 0x1.cbffffebf7cfp+6},
		{short, 3, api.KSemi, api.DAct, 45295, 0.37, 0x1.be906b27694f6p+0},
		{uneven, 1, api.KSemi, api.DBond, 45290, 0.37, 0x1.7e0110f56eb8ap+10},
		{coupons, 1, api.KSemi, api.DEuro, 45319, 0.37, 0x1.84f2edde35358p+5},
		{coupons, 1, api.KQuarter, api.D360, 45290, 0.05, 0x1.882546acf9672p+6},
		{short, 3, api.KQuarter, api.D365, 45319, 3.9, 0x1.6e44eee7976ebp-1},
		{uneven, 1, api.KQuarter, api.DAct, 45295, 3.9, 0x1.a2dd4cc436cd3p+9},
		{coupons, 1, api.KQuarter, api.DBond, 45290, 3.9, -0x1.175791b6e5b2ep+0},
		{short, 3, api.KQuarter, api.DEuro, 45319, 0.05, 0x1.f2cb893c4f42ep+0},
		{short, 3, api.KMonth, api.D360, 45290, 0.0, 0x1.0cccccccccccdp+1},
		{uneven, 1, api.KMonth, api.D365, 45319, 0.0, 0x1.04033b645a1cbp+11},
		{coupons, 1, api.KMonth, api.DAct, 45295, 0.0, 0x1.ccp+6},
		{short, 3, api.KMonth, api.DBond, 45290, -0.0125, 0x1.0ec390533a37fp+1},
		{uneven, 1, api.KMonth, api.DEuro, 45319, -0.0125, 0x1.073b3fef3000ap+11},
		{uneven, 1, api.KCont, api.D360, 45290, 1e-09, 0x1.04033b5fa8fedp+11},
		{coupons, 1, api.KCont, api.D365, 45319, 1e-09, 0x1.cbffffebf7cf2p+6},
		{short, 3, api.KCont, api.DAct, 45295, 0.37, 0x1.b77a3a2b4144p+0},
		{uneven, 1, api.KCont, api.DBond, 45290, 0.37, 0x1.755dd275e68f6p+10},
		{coupons, 1, api.KCont, api.DEuro, 45319, 0.37, 0x1.68d1cbc114ca7p+5},
	} {
		checkWorth(t, asked{x.l, x.cur, x.kind, x.count, x.base}, x.y, value(x.want))
	}
}

// Promise 22.3: by hand: which flows count, one rounding of an exact sum, and what has no number.
func TestWorthHand(t *testing.T) {
	for _, x := range []struct {
		l    []api.Flow
		y    float64
		want answer
	}{
		{nil, 0.1, value(0)},
		{[]api.Flow{}, -5, value(0)},
		{[]api.Flow{pay(360, 110)}, 0.1, value(100)},
		{[]api.Flow{pay(360, 8)}, 1, value(4)},
		{[]api.Flow{pay(360, 8), pay(720, 12), pay(1080, 16)}, 1, value(12)},
		{[]api.Flow{pay(360, 8)}, -0.5, value(16)},
		{[]api.Flow{pay(360, 8)}, minus, value(8)},
		{[]api.Flow{pay(360, 0)}, 1, value(0)},
		{[]api.Flow{pay(360, minus)}, 1, value(0)},
		{[]api.Flow{pay(360, 8), pay(1080, -16)}, 1, value(0)},
		// The base's own day is gone, and what is ahead of it; the next day is not, nor the last.
		{[]api.Flow{pay(0, 8)}, 1, value(0)},
		{[]api.Flow{pay(0, greatest), pay(0, greatest), pay(1, 8)}, 0, value(8)},
		{[]api.Flow{pay(1, 8), pay(api.LastDay, 4)}, 0, value(12)},
		// Products that are rounded by themselves would leave nothing.
		{[]api.Flow{pay(360, 3), pay(180, -2)}, 2, value(-0x1p-54)},
		{[]api.Flow{pay(180, -2), pay(360, 3)}, 2, value(-0x1p-54)},
		{[]api.Flow{pay(90, 1), pay(180, 0x1p-60), pay(270, -1)}, 0, value(0x1p-60)},
		// Halves of the last bit: to the even one, but for what lies on top.
		{[]api.Flow{pay(360, 1), pay(180, 0x1p-53)}, 0, value(1)},
		{[]api.Flow{pay(360, 1+0x1p-52), pay(180, 0x1p-53)}, 0, value(1 + 0x1p-51)},
		{[]api.Flow{pay(360, 1), pay(180, 0x1p-53), pay(90, least)}, 0, value(1 + 0x1p-52)},
		// Below the least number: a zero of the sum's sign.
		{[]api.Flow{pay(360, least)}, 1, value(0)},
		{[]api.Flow{pay(360, -least)}, 1, value(minus)},
		{[]api.Flow{pay(360, least), pay(360, least)}, 1, value(least)},
		{[]api.Flow{pay(360, 3*least)}, 1, value(2 * least)},
		// Too great on the way, and at the end.
		{[]api.Flow{pay(360, greatest), pay(360, greatest), pay(360, -greatest)}, 0, value(greatest)},
		{[]api.Flow{pay(360, greatest), pay(360, -greatest), pay(360, 7)}, -0.5, value(14)},
		{[]api.Flow{pay(360, greatest)}, 1, value(greatest / 2)},
		{[]api.Flow{pay(360, greatest), pay(180, 0x1p969)}, 0, value(greatest)},
		{[]api.Flow{pay(360, greatest), pay(180, 0x1p970)}, 0, wrong(api.ErrValue)},
		{[]api.Flow{pay(360, -greatest), pay(180, -0x1p970)}, 0, wrong(api.ErrValue)},
		{[]api.Flow{pay(360, greatest)}, -0.5, wrong(api.ErrValue)},
		{[]api.Flow{pay(360, -greatest), pay(360, -greatest)}, 0, wrong(api.ErrValue)},
		// A day at which the rate has no factor, be its amount 0, the first or the last one.
		{[]api.Flow{pay(360, 8)}, -1, wrong(api.ErrValue)},
		{[]api.Flow{pay(180, 8)}, -1, value(16)},
		{[]api.Flow{pay(180, 8), pay(360, 0)}, -1, wrong(api.ErrValue)},
		{[]api.Flow{pay(720, 8), pay(180, 8)}, -1, wrong(api.ErrValue)},
		{[]api.Flow{pay(0, 8)}, -1, value(0)},
		{[]api.Flow{pay(360, 8)}, greatest, value(0x1p-1021)},
		{[]api.Flow{pay(720, 8)}, greatest, wrong(api.ErrValue)},
		{[]api.Flow{pay(720, 8)}, -greatest, wrong(api.ErrValue)},
	} {
		checkWorth(t, simple(x.l...), x.y, x.want)
		// Other currencies' flows change nothing, though the rate has no factor there, or their sum is no number.
		for _, other := range []int{2, 8} {
			l := append(slices.Clone(x.l), f(1, greatest, other), f(1, greatest, other), f(api.LastDay, greatest, other))
			checkWorth(t, simple(l...), x.y, x.want)
		}
		// Nor do flows that are gone.
		a := simple(slices.Clone(x.l)...)
		for i := range a.l {
			a.l[i].Day = min(api.LastDay, a.l[i].Day+1000)
		}
		a.base = 1000
		if !slices.ContainsFunc(a.l, func(x api.Flow) bool { return x.Day == api.LastDay }) {
			checkWorth(t, a, x.y, x.want)
			a.l = append(a.l, pay(0, greatest), pay(999, greatest), pay(1000, greatest))
			checkWorth(t, a, x.y, x.want)
		}
	}
}

// Promise 22.3: which currency, which kind, which count, which base.
func TestWorthParts(t *testing.T) {
	var all []api.Flow
	for cur := 1; cur <= 8; cur++ {
		all = append(all, f(1360, math.Ldexp(1, cur), cur))
	}
	for cur := 1; cur <= 8; cur++ {
		checkWorth(t, asked{all, cur, api.KSimple, api.D360, 1000}, 1, value(math.Ldexp(0.5, cur)))
		checkYield(t, asked{all, cur, api.KSimple, api.D360, 1000}, math.Ldexp(2, cur), value(-0.5))
	}
	// From 2025-01-30 to 2025-03-31, and to 2025-01-31.
	for i, want := range []float64{60.0 / 360, 60.0 / 365, 60.0 / 365, 60.0 / 360, 60.0 / 360} {
		a := asked{[]api.Flow{pay(45745, 1)}, 1, api.KSimple, plain()[i], 45685}
		checkWorth(t, a, 1, value(1/(1+want)))
		a.l[0].Day = 45686
		want = []float64{1.0 / 360, 1.0 / 365, 1.0 / 365, 0, 0}[i]
		checkWorth(t, a, 1, value(1/(1+want)))
	}
	// From 2024-02-28 to 2025-02-28: 366 days, of which 308 are of the leap year.
	for i, want := range []float64{366.0 / 360, 366.0 / 365, (308*365.0 + 58*366) / (365 * 366), 1, 1} {
		checkWorth(t, asked{[]api.Flow{pay(45714, 1)}, 1, api.KSimple, plain()[i], 45348}, 1, value(1/(1+want)))
	}
	for i, want := range []float64{0x1.999999999999ap-3, 0x1.999999999999ap-3, 0x1.c71c71c71c71bp-4, 0x1p-4, 0x1.037e200000001p-5, 0x1.2c155b8213cf4p-6} {
		checkWorth(t, asked{[]api.Flow{pay(360, 1)}, 1, rates()[i], api.D360, 0}, 4, value(want))
	}
	for _, kind := range rates() {
		for _, n := range plain() {
			checkWorth(t, asked{[]api.Flow{pay(api.LastDay, 3), pay(api.LastDay-1, 4)}, 1, kind, n, api.LastDay}, 0.1, value(0))
			checkWorth(t, asked{[]api.Flow{pay(api.LastDay, 3), pay(api.LastDay-1, 4)}, 1, kind, n, api.LastDay - 1}, 0, value(3))
			checkWorth(t, asked{[]api.Flow{pay(api.LastDay, 3), pay(1, 4)}, 1, kind, n, 0}, 0, value(7))
		}
	}
}

// refusal is what may not be asked, with its error.
type refusal struct {
	a asked
	e api.Errno
}

// badAsks is what may not be asked: what is wrong first counts.
func badAsks() []refusal {
	good := pay(360, 1)
	var asks []refusal
	for _, x := range []struct {
		l []api.Flow
		e api.Errno
	}{
		{slices.Repeat([]api.Flow{good}, api.MaxFlows+1), api.ErrMany},
		{slices.Repeat([]api.Flow{{Day: -1}}, api.MaxFlows+1), api.ErrMany},
		{[]api.Flow{good, pay(-1, 1)}, api.ErrRange},
		{[]api.Flow{good, f(api.LastDay+1, nan, 9)}, api.ErrRange},
		{[]api.Flow{good, f(-1, 1, 2)}, api.ErrRange},
		{[]api.Flow{good, pay(360, nan)}, api.ErrValue},
		{[]api.Flow{good, f(360, -inf, 2)}, api.ErrValue},
		{[]api.Flow{pay(0, nan), good}, api.ErrValue},
		{[]api.Flow{good, f(360, 1, 0)}, api.ErrCur},
		{[]api.Flow{f(360, 1, 9), f(360, nan, 1)}, api.ErrCur},
		{[]api.Flow{f(360, nan, 1), f(-1, 1, 9)}, api.ErrValue},
	} {
		asks = append(asks, refusal{asked{x.l, 9, 0, api.DOpen, -1}, x.e}, refusal{asked{x.l, 1, api.KSimple, api.D360, 0}, x.e})
	}
	for _, l := range [][]api.Flow{nil, {good}, {pay(0, 1)}} {
		for _, cur := range outside(1, 8) {
			asks = append(asks, refusal{asked{l, cur, 7, api.DOpen, -1}, api.ErrCur}, refusal{asked{l, cur, api.KCont, api.DEuro, api.LastDay}, api.ErrCur})
		}
		for _, kind := range outside(api.KSimple, api.KCont) {
			asks = append(asks, refusal{asked{l, 8, kind, api.DOpen, -1}, api.ErrKind}, refusal{asked{l, 1, kind, api.D360, 0}, api.ErrKind})
		}
		for _, n := range outside(api.D360, api.DEuro) {
			asks = append(asks, refusal{asked{l, 1, api.KSimple, n, -1}, api.ErrCount}, refusal{asked{l, 8, api.KCont, n, 0}, api.ErrCount})
		}
		for _, n := range noDays() {
			asks = append(asks, refusal{asked{l, 8, api.KSimple, api.DEuro, n}, api.ErrRange})
		}
	}
	return asks
}

// Promises 22.3 to 22.5: the flows' error, the currency's, the kind's, the count's, the base's, and then that of y, of the price and of h.
func TestAskRefusals(t *testing.T) {
	for _, x := range badAsks() {
		for _, y := range []float64{0.1, -5, nan, inf, -inf} {
			checkWorth(t, x.a, y, wrong(x.e))
			checkYield(t, x.a, y, wrong(x.e))
			for _, h := range []float64{0.1, 0, -1, nan, inf} {
				checkDuration(t, x.a, y, h, wrong(x.e))
			}
		}
	}
	for _, l := range [][]api.Flow{nil, {pay(0, 1)}, {pay(360, 1)}, {f(360, 1, 2)}} {
		for _, kind := range rates() {
			a := asked{l, 1, kind, api.DBond, 0}
			for _, x := range notNumbers() {
				checkWorth(t, a, x, wrong(api.ErrValue))
				checkYield(t, a, x, wrong(api.ErrValue))
				checkDuration(t, a, x, 0.1, wrong(api.ErrValue))
			}
			for _, h := range append(notNumbers(), 0, minus, -least, -0.1, -greatest) {
				checkDuration(t, a, 0.1, h, wrong(api.ErrValue))
			}
		}
	}
}

// Promise 22.3: each step, of all sorts of flows.
func TestWorthSteps(t *testing.T) {
	state := uint64(223)
	seen := map[api.Errno]int{}
	for i := range 6000 {
		a := someAsked(&state, 12, i%3 == 0)
		for range 3 {
			y := someYield(&state)
			want := a.stepWorth(y)
			checkWorth(t, a, y, want)
			seen[want.e]++
		}
	}
	if seen[api.OK] < 12000 || seen[api.ErrValue] < 500 || len(seen) != 2 {
		t.Errorf("only %v", seen)
	}
}

// Promise 22.7: under simple rates flows from 0 on are not worth more where the yield rises.
func TestWorthFalls(t *testing.T) {
	state := uint64(227)
	falls := 0
	for i := range 1500 {
		a := someAsked(&state, 9, i%2 == 0)
		a.kind = api.KSimple
		for i, x := range a.l {
			a.l[i].Amount = math.Abs(x.Amount)
		}
		y, last := 0.0, inf
		for range 12 {
			w := a.worth(y)
			if w.e == api.OK {
				if w.x > last {
					t.Errorf("%v is worth %x at %x, but %x ahead of it", a, w.x, y, last)
				}
				if w.x < last {
					falls++
				}
				last = w.x
			}
			switch below(&state, 3) {
			case 0:
				y = ieee.Up(y)
			case 1:
				y += unit(&state) / 16
			default:
				y += math.Ldexp(unit(&state), below(&state, 60)-50)
			}
		}
	}
	if falls < 5000 {
		t.Errorf("only %d falls", falls)
	}
}

// Promise 22.8: the order of the flows makes nothing; at 0 they are worth the exact sum of what lies behind the base.
func TestWorthOrder(t *testing.T) {
	state := uint64(228)
	held := 0
	for i := range 2500 {
		a := someAsked(&state, 12, i%3 != 0)
		if i%5 == 0 {
			a.l = append(a.l, flow.Give(a.l)...)
		}
		y := someYield(&state)
		want := a.worth(y)
		sum := acc.New()
		for _, x := range a.l {
			if x.Cur == a.cur && x.Day > a.base {
				sum.Add(x.Amount)
			}
		}
		price, yield := sum.Value()/2, answer{}
		if i%16 == 0 {
			yield = a.yield(price)
		}
		for range 3 {
			m := a
			m.l = mixed(&state, a.l)
			checkWorth(t, m, y, want)
			checkWorth(t, m, 0, number(sum.Value()))
			checkWorth(t, m, minus, number(sum.Value()))
			if i%16 == 0 {
				checkYield(t, m, price, yield)
			}
		}
		if want.e == api.OK && want.x != 0 {
			held++
		}
	}
	if held < 1200 {
		t.Errorf("only %d lists", held)
	}
}

// full is as many flows as may be, half of them behind the base.
func full(state *uint64, amount func(*uint64) float64) asked {
	a := asked{cur: 1, kind: 2 + below(state, 5), count: 1 + below(state, 5), base: 40000}
	for range api.MaxFlows {
		a.l = append(a.l, f(39000+below(state, 2000), amount(state), 1+below(state, 2)))
	}
	return a
}

// Promises 22.3 to 22.5: as many flows as may be.
func TestFull(t *testing.T) {
	state := uint64(2233)
	for range 3 {
		a := full(&state, func(state *uint64) float64 { return someAmount(state) / 8192 })
		checkWorth(t, a, 0.03, a.stepWorth(0.03))
		checkDuration(t, a, 0.03, 0.01, a.stepDuration(0.03, 0.01))
		a = full(&state, func(state *uint64) float64 { return float64(below(state, 1000)) })
		price := a.stepWorth(0.03).x * (1 + unit(&state)/16)
		checkYield(t, a, price, a.stepYield(price))
		a.l = append(a.l, pay(40001, 1))
		checkWorth(t, a, 0.03, wrong(api.ErrMany))
	}
	a := asked{slices.Repeat([]api.Flow{pay(1360, 1)}, api.MaxFlows), 1, api.KSimple, api.D360, 1000}
	checkWorth(t, a, 1, value(2048))
	checkYield(t, a, 2048, told(1, api.OK))
}

// Promise 22.4: bits, reckoned elsewhere.
func TestYieldKnown(t *testing.T) {
	coupons, uneven, short := coupons(), uneven(), short()
	for _, x := range []struct {
		l                      []api.Flow
		cur, kind, count, base int
		price                  float64
		want                   answer
	}{
		{coupons, 1, api.KSimple, api.D360, 45290, 109.125, wrong(api.ErrValue)},
		{uneven, 1, api.KSimple, api.D365, 45295, 1040.05, wrong(api.ErrValue)},
		{short, 3, api.KSimple, api.DAct, 45319, 1.94, value(0x1.e4e0f9f8df15ap-5)},
		{coupons, 1, api.KSimple, api.DBond, 45290, 112.444, wrong(api.ErrValue)},
		{uneven, 1, api.KSimple, api.DEuro, 45295, 2121.703, wrong(api.ErrValue)},
		{short, 3, api.KAnnual, api.D360, 45290, 2.099, value(0x1.a77faabff45c4p-11)},
		{coupons, 1, api.KAnnual, api.D365, 45295, 57.5, value(0x1.363e3bb2b14d9p-2)},
		{uneven, 1, api.KAnnual, api.DAct, 45319, 2017.698, value(0x1.068168a1be929p-5)},
		{short, 3, api.KAnnual, api.DBond, 45290, 1.05, value(0x1.841ddfe92c4e6p+1)},
		{coupons, 1, api.KAnnual, api.DEuro, 45295, 117.3, value(-0x1.e6084c7c7524fp-8)},
		{uneven, 1, api.KSemi, api.D360, 45290, 2079.061, value(0x1.e7b6cf24eefffp-12)},
		{short, 3, api.KSemi, api.D365, 45295, 2.142, value(-0x1.1a0c7db774f2bp-5)},
		{coupons, 1, api.KSemi, api.DAct, 45319, 111.55, value(0x1.82434f4e8788p-7)},
		{uneven, 1, api.KSemi, api.DBond, 45290, 1040.05, value(0x1.78b0f0db921e4p+0)},
		{short, 3, api.KSemi, api.DEuro, 45295, 2.037, value(0x1.c02d4dffe9fc2p-5)},
		{coupons, 1, api.KQuarter, api.D360, 45290, 112.444, value(0x1.78a2052784p-13)},
		{uneven, 1, api.KQuarter, api.D365, 45295, 2121.703, value(-0x1.329bb98636041p-6)},
		{short, 3, api.KQuarter, api.DAct, 45319, 1.999, value(0x1.f0116ac5a458cp-11)},
		{coupons, 1, api.KQuarter, api.DBond, 45290, 56.25, value(0x1.0dc21882b2d08p-2)},
		{uneven, 1, api.KQuarter, api.DEuro, 45295, 2017.698, value(0x1.e5b68e9290a8p-6)},
		{short, 3, api.KMonth, api.D360, 45290, 1.05, value(0x1.7572f24fa1dd9p+0)},
		{coupons, 1, api.KMonth, api.D365, 45295, 117.3, value(-0x1.e74b99773e1p-8)},
		{uneven, 1, api.KMonth, api.DAct, 45319, 2079.061, value(0x1.0b9a5f42b0fffp-11)},
		{short, 3, api.KMonth, api.DBond, 45290, 2.142, value(-0x1.15b7296a025ap-5)},
		{coupons, 1, api.KMonth, api.DEuro, 45295, 111.55, value(0x1.77bab214003p-7)},
		{uneven, 1, api.KCont, api.D360, 45290, 1040.05, value(0x1.171a634563d6dp+0)},
		{short, 3, api.KCont, api.D365, 45295, 2.037, value(0x1.b9a112935abe4p-5)},
		{coupons, 1, api.KCont, api.DAct, 45319, 114.943, value(0x1.90f24efa911fdp-13)},
		{uneven, 1, api.KCont, api.DBond, 45290, 2121.703, value(-0x1.2fa9b82574252p-6)},
		{short, 3, api.KCont, api.DEuro, 45295, 2.099, value(0x1.b81ab9ee0e8dbp-11)},
	} {
		checkYield(t, asked{x.l, x.cur, x.kind, x.count, x.base}, x.price, x.want)
	}
}

// Promise 22.4: by hand: the ends, and the first place that is asked between them.
func TestYieldHand(t *testing.T) {
	note := []api.Flow{pay(360, 110)}
	for _, x := range []struct {
		a     asked
		price float64
		want  answer
	}{
		{simple(note...), 100, value(0x1.99999999999ap-4)},
		{compound(note...), 100, value(0x1.99999999999ap-4)},
		{simple(note...), 90, value(0x1.c71c71c71c71bp-3)},
		{simple(note...), 219, value(-0x1.fda97f6a5fdaap-2)},
		{simple(note...), 23, value(0x1.e42c8590b2163p+1)},
		// The ends themselves.
		{simple(note...), 220, value(-0.5)},
		{simple(note...), 22, value(4)},
		{simple(note...), ieee.Up(220), wrong(api.ErrBracket)},
		{simple(note...), ieee.Down(22), wrong(api.ErrBracket)},
		{simple(note...), 0, wrong(api.ErrBracket)},
		{simple(note...), -100, wrong(api.ErrBracket)},
		{simple(note...), greatest, wrong(api.ErrBracket)},
		{simple(note...), -greatest, wrong(api.ErrBracket)},
		// The number whose rank is halfway between those of the ends.
		{simple(note...), 110, value(0x1.8p-1022)},
		{compound(note...), 110, value(0x1.8p-1022)},
		// No flow, or none that is left: worth nothing everywhere.
		{simple(), 0, value(-0.5)},
		{simple(), minus, value(-0.5)},
		{simple(pay(0, 110)), 0, value(-0.5)},
		{simple(f(360, 110, 2)), 0, value(-0.5)},
		{simple(), 1, wrong(api.ErrBracket)},
		{simple(), -least, wrong(api.ErrBracket)},
		{simple(pay(0, 110)), 100, wrong(api.ErrBracket)},
		// What is owed: the worth rises with the yield.
		{simple(flow.Give(note)...), -100, value(0x1.99999999999ap-4)},
		{simple(flow.Give(note)...), -220, value(-0.5)},
		{simple(flow.Give(note)...), -22, value(4)},
		{simple(flow.Give(note)...), 100, wrong(api.ErrBracket)},
		// Two flows: 100 / (1 + y) + 100 / (1 + y / 2).
		{simple(pay(360, 100), pay(180, 100)), 200, value(0x1.8p-1022)},
		// No factor at the lower end: two years at -0.5; at the upper one: 187 years at 4, continuously.
		{simple(pay(719, 100)), 1000, value(-0x1.cd70de2cdcc04p-2)},
		{simple(pay(720, 100)), 90, wrong(api.ErrValue)},
		{simple(pay(720, 0), pay(360, 110)), 100, wrong(api.ErrValue)},
		{simple(f(720, 110, 2), pay(360, 110)), 100, value(0x1.99999999999ap-4)},
		{asked{[]api.Flow{pay(360*186, 1)}, 1, api.KCont, api.D360, 0}, 0.5, value(0x1.e873dee13948ep-9)},
		{asked{[]api.Flow{pay(360*187, 1)}, 1, api.KCont, api.D360, 0}, 0.5, wrong(api.ErrValue)},
		// Both ends are worth a number, but the first place between them is not.
		{compound(hump()...), 0, wrong(api.ErrValue)},
	} {
		checkYield(t, x.a, x.price, x.want)
	}
}

// hump is flows whose worth is above the greatest number between two yields, and of unlike signs at both ends: a multiple of v (v - 1.99) (v - 0.19), v being the factor of a year.
func hump() []api.Flow {
	var l []api.Flow
	for range 10 {
		l = append(l, pay(1080, 1e308), pay(720, -1.99e308/2), pay(720, -1.99e308/2), pay(720, -0.19e308), pay(360, 1.99*0.19e308))
	}
	return l
}

// Promise 22.4: what the hump is for.
func TestHump(t *testing.T) {
	a := compound(hump()...)
	low, high := a.stepWorth(-0.5), a.stepWorth(4)
	if low.e != api.OK || high.e != api.OK || low.x*high.x >= 0 {
		t.Errorf("worth %v and %v", low, high)
	}
	checkWorth(t, a, -0.5, low)
	checkWorth(t, a, 4, high)
	checkWorth(t, a, 0x1.8p-1022, wrong(api.ErrValue))
}

// priced is a list that can be asked, and a price that may be met.
func priced(state *uint64, i int) (asked, float64) {
	a := someAsked(state, 6, i%4 == 0)
	switch i % 3 {
	case 0:
		a.kind = api.KAnnual + below(state, 5)
	case 1:
		for j := range a.l {
			a.l[j].Day = max(0, min(api.LastDay, a.base+below(state, 700)-50))
		}
	}
	price := a.worth(5*unit(state) - 0.6).x
	switch below(state, 8) {
	case 0:
		price = someAmount(state)
	case 1, 2, 3, 4:
		price *= 1 + unit(state)/16
	}
	return a, price
}

// Promise 22.4: each step, of all sorts of flows and prices.
func TestYieldSteps(t *testing.T) {
	state := uint64(224)
	seen := map[api.Errno]int{}
	for i := range 900 {
		a, price := priced(&state, i)
		want := a.stepYield(price)
		checkYield(t, a, price, want)
		seen[want.e]++
	}
	if seen[api.OK] < 300 || seen[api.ErrBracket] < 100 || seen[api.ErrValue] < 30 || len(seen) != 3 {
		t.Errorf("only %v", seen)
	}
}

// side is on which side of the price the flows are worth something.
func (a asked) side(t *testing.T, y, price float64) int {
	t.Helper()
	w := a.worth(y)
	if w.e != api.OK {
		t.Errorf("Worth of %v at %x: %v", a, y, w.e)
	}
	switch {
	case w.x > price:
		return 1
	case w.x < price:
		return -1
	}
	return 0
}

// Promise 22.6, W11: at a yield the flows are worth the price, or else more there and less at the very next number, or the other way round.
func TestYieldCrosses(t *testing.T) {
	state := uint64(2266)
	exact, up, down := 0, 0, 0
	for i := range 5000 {
		a, price := priced(&state, i)
		y := a.yield(price)
		if y.e != api.OK {
			continue
		}
		here, next := a.side(t, y.x, price), 0
		if here != 0 {
			next = a.side(t, ieee.Up(y.x), price)
		}
		switch {
		case y.x < -0.5 || y.x > 4:
			t.Errorf("Yield of %v at %x is %x", a, price, y.x)
		case here == 0:
			exact++
		case here == 1 && next != 1:
			down++
		case here == -1 && next != -1:
			up++
		default:
			t.Errorf("Yield of %v at %x is %x, where the sign stays %d", a, price, y.x, here)
		}
	}
	if exact < 500 || down < 500 || up < 50 {
		t.Errorf("only %d, %d and %d yields", exact, down, up)
	}
}

// Promise 22.5: bits, reckoned elsewhere.
func TestDurationKnown(t *testing.T) {
	coupons, uneven, short := coupons(), uneven(), short()
	for _, x := range []struct {
		l                      []api.Flow
		cur, kind, count, base int
		y, h, want             float64
	}{
		{coupons, 1, api.KSimple, api.D360, 45290, 0.05, 0.0001, 0x1.369685487a571p+1},
		{short, 3, api.KSimple, api.D365, 45290, 0.0, 0.01, 0x1.29ef481bc759dp-1},
		{uneven, 1, api.KSimple, api.DAct, 45290, 0.0, 0.03, 0x1.10292ed25b8eep+0},
		{coupons, 1, api.KSimple, api.DBond, 45290, 0.0, 0.01, 0x1.5e074f6cdd155p+1},
		{short, 3, api.KSimple, api.DEuro, 45290, -0.0125, 0x1p-20, 0x1.2d5688d83c07p-1},
		{uneven, 1, api.KAnnual, api.D360, 45295, 0.37, 0x1p-20, 0x1.21cd3c93d62f4p-1},
		{coupons, 1, api.KAnnual, api.D365, 45295, 0.37, 0.0001, 0x1.dc12318e1eea3p+0},
		{short, 3, api.KAnnual, api.DAct, 45295, 0.05, 0.01, 0x1.11883c12cf692p-1},
		{uneven, 1, api.KAnnual, api.DBond, 45295, 0.05, 0.03, 0x1.e9457b7b82213p-1},
		{coupons, 1, api.KAnnual, api.DEuro, 45295, 0.05, 0.01, 0x1.42927badee868p+1},
		{short, 3, api.KSemi, api.D360, 45319, 0.11, 0.0001, 0x1.fe2e0f6ae313bp-2},
		{uneven, 1, api.KSemi, api.D365, 45319, 0.11, 0x1p-20, 0x1.ad15ef165a7eap-1},
		{coupons, 1, api.KSemi, api.DAct, 45319, 0.11, 0.0001, 0x1.36bb14627e3f9p+1},
		{short, 3, api.KSemi, api.DBond, 45319, 0.37, 0.01, 0x1.a8cee79ed3285p-2},
		{uneven, 1, api.KSemi, api.DEuro, 45319, 0.37, 0.03, 0x1.25b04381f95fcp-1},
		{coupons, 1, api.KQuarter, api.D360, 45290, 0.0, 0.03, 0x1.636c10db3685ap+1},
		{short, 3, api.KQuarter, api.D365, 45290, -0.0125, 0.0001, 0x1.2b99c7c765c77p-1},
		{uneven, 1, api.KQuarter, api.DAct, 45290, -0.0125, 0x1p-20, 0x1.12f62d3e55122p+0},
		{coupons, 1, api.KQuarter, api.DBond, 45290, -0.0125, 0.0001, 0x1.5f09da5b6fd6ap+1},
		{short, 3, api.KQuarter, api.DEuro, 45290, 0.11, 0.01, 0x1.1b61048632e28p-1},
		{uneven, 1, api.KMonth, api.D360, 45295, 0.05, 0.01, 0x1.02c23da3cbc57p+0},
		{coupons, 1, api.KMonth, api.D365, 45295, 0.05, 0.03, 0x1.51db0ac327686p+1},
		{short, 3, api.KMonth, api.DAct, 45295, 0.0, 0.0001, 0x1.221b4fe5d0f55p-1},
		{uneven, 1, api.KMonth, api.DBond, 45295, 0.0, 0x1p-20, 0x1.0bcda7ccf481p+0},
		{coupons, 1, api.KMonth, api.DEuro, 45295, 0.0, 0.0001, 0x1.5461f2f4da69cp+1},
		{short, 3, api.KCont, api.D360, 45319, 0.37, 0.03, 0x1.fb746119ef966p-2},
		{uneven, 1, api.KCont, api.D365, 45319, 0.37, 0.01, 0x1.50834d699d6c3p-1},
		{coupons, 1, api.KCont, api.DAct, 45319, 0.37, 0.03, 0x1.3a50271698c6bp+1},
		{short, 3, api.KCont, api.DBond, 45319, 0.05, 0.0001, 0x1.0bdde574e41fcp-1},
		{uneven, 1, api.KCont, api.DEuro, 45319, 0.05, 0x1p-20, 0x1.dd74a464e6d96p-1},
	} {
		checkDuration(t, asked{x.l, x.cur, x.kind, x.count, x.base}, x.y, x.h, value(x.want))
	}
}

// Promise 22.5: by hand: each step, and what has no number.
func TestDurationHand(t *testing.T) {
	// A flow of a year that has no day, whose factor is 1 at each simple yield.
	still := func(amount float64) asked {
		return asked{[]api.Flow{pay(45686, amount)}, 1, api.KSimple, api.DBond, 45685}
	}
	steep := append(slices.Repeat([]api.Flow{pay(360, 1.5e308)}, 3), slices.Repeat([]api.Flow{pay(180, -1.40625e308)}, 4)...)
	wide := append(slices.Repeat([]api.Flow{pay(360, 1e308)}, 4), slices.Repeat([]api.Flow{pay(180, -0.5e308)}, 7)...)
	for _, x := range []struct {
		a    asked
		y, h float64
		want answer
	}{
		// Worth 3, and 6 and 2 at both sides.
		{simple(pay(360, 6)), 1, 1, value(0x1.5555555555555p-1)},
		{simple(pay(360, -6)), 1, 1, value(0x1.5555555555555p-1)},
		{simple(pay(360, 6)), 0.25, 0.75, value(0x1.3ffffffffffffp+0)},
		// Worth 1, and 2 and 2/3.
		{simple(pay(360, 2)), 1, 1, value(less(2, 0x1.5555555555555p-1) / 2)},
		// Worth 4, and 8 and 8/3.
		{simple(pay(360, 4)), 0, 0.5, value((8 - 0x1.5555555555555p+1) / 4)},
		// The yields at both sides must have factors, too.
		{simple(pay(360, 6)), 1, 2, wrong(api.ErrValue)},
		{simple(pay(360, 6)), 1, ieee.Down(2), value(0x1.0000000000001p+51)},
		{simple(pay(360, 6)), -0.5, 0.5, wrong(api.ErrValue)},
		{simple(pay(360, 6)), -0.5, 0.25, value(0x1.5555555555555p+1)},
		{simple(pay(720, 6)), greatest / 2, greatest / 4, wrong(api.ErrValue)},
		{still(6), greatest, greatest, wrong(api.ErrValue)},
		{still(6), -greatest, greatest, wrong(api.ErrValue)},
		{still(6), -greatest, 0x1p969, value(0)},
		// A bump that moves nothing, by a yield that does not change or a factor that does not.
		{simple(pay(360, 6)), 1, 0x1p-60, value(0)},
		{simple(pay(360, -6)), 1, 0x1p-60, value(minus)},
		{simple(pay(360, 6)), 0.1, least, value(0)},
		{still(6), 0, 0.5, value(0)},
		{still(-6), 0, 0.5, value(minus)},
		// Twice the bump is too great: nothing is left.
		{still(6), 0, greatest, value(0)},
		{still(-6), 0, greatest, value(minus)},
		{still(6), 0, 0x1p1023, value(0)},
		// Nothing to be a part of.
		{simple(), 0.1, 0.01, wrong(api.ErrValue)},
		{simple(pay(0, 6)), 0.1, 0.01, wrong(api.ErrValue)},
		{simple(f(360, 6, 2)), 0.1, 0.01, wrong(api.ErrValue)},
		{simple(pay(360, 1), pay(720, -1)), 0, 0.25, wrong(api.ErrValue)},
		{simple(pay(360, 0)), 0.1, 0.01, wrong(api.ErrValue)},
		{simple(pay(360, -least)), 1, 0.01, wrong(api.ErrValue)},
		// Too great: the difference, the quotient by twice the bump, that by the worth.
		{simple(steep...), 0, 0.5, wrong(api.ErrValue)},
		{simple(pay(360, 1e308)), 0x1p-1000, 0x1p-20, value(0x1.000000003ca31p+0)},
		{simple(wide...), 0, 0.25, wrong(api.ErrValue)},
		{simple(pay(360, 1), pay(720, -1), pay(90, least)), 0, 0.25, wrong(api.ErrValue)},
	} {
		checkDuration(t, x.a, x.y, x.h, x.want)
	}
	// Continuously, the time itself is what is told, about.
	a := asked{[]api.Flow{pay(730, 5)}, 1, api.KCont, api.D365, 0}
	if d := a.duration(0.05, 0x1p-10); d.e != api.OK || math.Abs(d.x-2) > 1e-5 {
		t.Errorf("the duration of two years is %v", d)
	}
}

// Promise 22.5: each step, of all sorts of flows.
func TestDurationSteps(t *testing.T) {
	state := uint64(225)
	seen := map[api.Errno]int{}
	for i := range 4000 {
		a := someAsked(&state, 8, i%3 == 0)
		y, h := someYield(&state), math.Ldexp(1+unit(&state), -below(&state, 30))
		if below(&state, 8) == 0 {
			h = []float64{least, 0x1p-100, 1, 5, greatest, 0x1p1023, 0, -1}[below(&state, 8)]
		}
		want := a.stepDuration(y, h)
		checkDuration(t, a, y, h, want)
		seen[want.e]++
	}
	if seen[api.OK] < 1500 || seen[api.ErrValue] < 500 || len(seen) != 2 {
		t.Errorf("only %v", seen)
	}
}

// Promise 22.9: whatever is given, every call ends and none panics; beside an error there is nothing.
func TestAnyAsk(t *testing.T) {
	ints := []int{math.MinInt, -1, 0, 1, 2, 3, 4, 5, 6, 7, 8, 9, 360, 45656, api.LastDay - 1, api.LastDay, api.LastDay + 1, math.MaxInt}
	numbers := []float64{0, minus, 1, -1, 0.05, -0.5, 4, 100, least, greatest, -greatest, inf, -inf, nan}
	state := uint64(2299)
	any := func() int { return ints[below(&state, len(ints))] }
	small := func(n int) int {
		if below(&state, 12) == 0 {
			return any()
		}
		return 1 + below(&state, n)
	}
	number := func() float64 { return numbers[below(&state, len(numbers))] }
	for range 8000 {
		a := asked{cur: small(8), kind: small(6), count: small(5), base: any()}
		if below(&state, 2) == 0 {
			a.base = 45000
		}
		for range below(&state, 4) {
			a.l = append(a.l, f(max(0, min(api.LastDay, any())), numbers[below(&state, len(numbers)-3)], 1+below(&state, 8)))
		}
		if below(&state, 4) == 0 {
			a.l = append(a.l, f(any(), number(), small(9)))
		}
		y, h := number(), number()
		checkWorth(t, a, y, a.stepWorth(y))
		checkYield(t, a, y, a.stepYield(y))
		checkDuration(t, a, y, h, a.stepDuration(y, h))
	}
}

// DOC.md, rules 3 and 8: what is given stays as it was, its spare room too, and is not kept.
func TestFlowsStay(t *testing.T) {
	room := append(coupons(), pay(7, nan), f(8, 8, 88))
	for _, kind := range rates() {
		a := asked{slices.Clone(room)[:len(room)-2], 1, kind, api.D365, 45290}
		want, price := a.stepWorth(0.05), 100.0
		yield := a.stepYield(price)
		for range 2 {
			checkWorth(t, a, 0.05, want)
			checkYield(t, a, price, yield)
			checkDuration(t, a, 0.05, 0.01, a.stepDuration(0.05, 0.01))
		}
		for i, x := range a.l[:len(room)] {
			if x.Day != room[i].Day || x.Cur != room[i].Cur || math.Float64bits(x.Amount) != math.Float64bits(room[i].Amount) {
				t.Errorf("kind %d: what was given is %v at %d", kind, x, i)
			}
		}
		clear(a.l)
		checkWorth(t, asked{room[:len(room)-2], 1, kind, api.D365, 45290}, 0.05, want)
	}
}
