package flow_test

import (
	"math"
	"slices"
	"testing"

	"tenor/api"
	"tenor/flow"
)

// checkCheck holds one answer of Check.
func checkCheck(t *testing.T, l []api.Flow, want api.Errno, at int) {
	t.Helper()
	if e, place := flow.Check(l); e != want || place != at {
		t.Errorf("Check of %d flows is %v, %d, not %v, %d", len(l), e, place, want, at)
	}
}

// checkGive holds one answer of Give.
func checkGive(t *testing.T, l, want []api.Flow) {
	t.Helper()
	if got := flow.Give(l); !same(got, want) {
		t.Errorf("Give(%v) is %v, not %v", l, got, want)
	}
}

// checkScale holds one answer of Scale.
func checkScale(t *testing.T, x float64, l []api.Flow, want list) {
	t.Helper()
	if got := told(flow.Scale(x, l)); !got.is(want) {
		t.Errorf("Scale(%v, %v) is %v, not %v", x, l, got, want)
	}
}

// checkWindow holds one answer of Window.
func checkWindow(t *testing.T, l []api.Flow, a, b int, want ...api.Flow) {
	t.Helper()
	if got := flow.Window(l, a, b); !same(got, want) {
		t.Errorf("Window(%v, %d, %d) is %v, not %v", l, a, b, got, want)
	}
}

// checkShift holds one answer of Shift.
func checkShift(t *testing.T, l []api.Flow, months int, want list) {
	t.Helper()
	if got := told(flow.Shift(l, months)); !got.is(want) {
		t.Errorf("Shift(%v, %d) is %v, not %v", l, months, got, want)
	}
}

// checkNet holds one answer of Net.
func checkNet(t *testing.T, l []api.Flow, want list) {
	t.Helper()
	if got := told(flow.Net(l)); !got.is(want) {
		t.Errorf("Net(%v) is %v, not %v", l, got, want)
	}
}

// The chapter's examples.
func TestExamples(t *testing.T) {
	checkGive(t, []api.Flow{f(5, 3, 1)}, []api.Flow{f(5, -3, 1)})
	checkWindow(t, []api.Flow{pay(1, 1), pay(2, 1), pay(3, 1)}, 2, 3, pay(2, 1))
	checkNet(t, []api.Flow{f(5, 1e308, 1), f(3, 2, 2), f(5, 1e308, 1), f(5, -1e308, 1)}, flows(f(5, 1e308, 1), f(3, 2, 2)))
	checkScale(t, 2, []api.Flow{f(5, 1e308, 1)}, wrong(api.ErrValue))
	checkFixed(t, leg(api.LFixed, api.DEuro, 100, 0.05, halves()), flows(pay(jul15, 2.5), pay(next15, 2.5)))
}

// Promise 14.1: what may be.
func TestCheckTakes(t *testing.T) {
	checkCheck(t, nil, api.OK, 0)
	checkCheck(t, []api.Flow{}, api.OK, 0)
	for _, day := range []int{0, 1, 45656, api.LastDay - 1, api.LastDay} {
		for _, x := range []float64{0, minus, 1, -1, least, -least, greatest, -greatest, 0x1p-1022} {
			for cur := 1; cur <= 8; cur++ {
				checkCheck(t, []api.Flow{f(day, x, cur), f(day, x, cur)}, api.OK, 0)
			}
		}
	}
	for _, n := range []int{1, 2, 4095, 4096} {
		checkCheck(t, slices.Repeat([]api.Flow{pay(3, 1)}, n), api.OK, 0)
	}
}

// bads is flows that may not be, in one way or in several, with the first error.
func bads() map[api.Flow]api.Errno {
	m := map[api.Flow]api.Errno{{}: api.ErrCur}
	noCurs := []int{math.MinInt, -1, 0, 9, 256 + 1, 1<<32 + 8, math.MaxInt}
	noNumbers := []float64{nan, inf, -inf, math.Float64frombits(0x7ff0000000000001), math.Float64frombits(0xffffffffffffffff)}
	for _, cur := range noCurs {
		m[f(7, 1, cur)] = api.ErrCur
		m[f(api.LastDay, minus, cur)] = api.ErrCur
	}
	for _, x := range noNumbers {
		m[f(0, x, 1)] = api.ErrValue
		m[f(api.LastDay, x, 9)] = api.ErrValue
	}
	for _, day := range []int{math.MinInt, -1, api.LastDay + 1, 1<<32 + 5, math.MaxInt} {
		m[f(day, 1, 1)] = api.ErrRange
		m[f(day, inf, 1)] = api.ErrRange
		m[f(day, 1, 0)] = api.ErrRange
		m[f(day, nan, 9)] = api.ErrRange
	}
	return m
}

// Promises 14.1 and 14.7: flows that may not be: the first one's error and its place, whatever stands behind it.
func TestCheckRefuses(t *testing.T) {
	for bad, want := range bads() {
		for _, ahead := range []int{0, 1, 2, 4095} {
			l := append(slices.Repeat([]api.Flow{f(3, greatest, 2)}, ahead), bad)
			checkCheck(t, l, want, ahead)
			checkNet(t, l, wrong(want))
			if ahead < 4095 {
				for _, next := range []api.Flow{{}, f(-1, nan, 9), f(3, nan, 2), f(5, 1, 1)} {
					checkCheck(t, append(l, next), want, ahead)
					checkNet(t, append(l, next), wrong(want))
				}
			}
		}
	}
	for _, n := range []int{4097, 4098, 10000} {
		for _, x := range []api.Flow{pay(3, 1), {}, f(-1, nan, 9)} {
			l := slices.Repeat([]api.Flow{x}, n)
			checkCheck(t, l, api.ErrMany, 0)
			checkNet(t, l, wrong(api.ErrMany))
		}
	}
}

// Promise 14.5: Give turns the sign bit, of whatever there is.
func TestGive(t *testing.T) {
	checkGive(t, nil, nil)
	checkGive(t, []api.Flow{}, nil)
	l := []api.Flow{pay(3, 0), pay(2, minus), f(1, inf, 9), f(-5, -inf, -3), pay(0, greatest), pay(7, -least), f(math.MinInt, 2, math.MaxInt), pay(3, nan)}
	want := []api.Flow{pay(3, minus), pay(2, 0), f(1, -inf, 9), f(-5, inf, -3), pay(0, -greatest), pay(7, least), f(math.MinInt, -2, math.MaxInt), pay(3, nan)}
	checkGive(t, l, want)
	for _, x := range append(l, pay(3, math.Float64frombits(0x7ff8000000000123)), pay(3, math.Float64frombits(0xfff8000000000456))) {
		got := flow.Give([]api.Flow{x})
		if math.Float64bits(got[0].Amount) != math.Float64bits(x.Amount)^1<<63 {
			t.Errorf("Give of %x is %x", math.Float64bits(x.Amount), math.Float64bits(got[0].Amount))
		}
	}
	checkGive(t, slices.Repeat([]api.Flow{pay(3, 1)}, 5000), slices.Repeat([]api.Flow{pay(3, -1)}, 5000))
}

// Promise 14.5: Scale, a step a flow.
func TestScale(t *testing.T) {
	for _, x := range []struct{ x, a, want float64 }{
		{2, 3, 6}, {0, 3, 0}, {minus, 3, minus}, {0, -3, minus}, {minus, minus, 0}, {-1, 0, minus}, {0.1, 3, 0x1.3333333333334p-2}, {3, 0.1, 0x1.3333333333334p-2},
		{0.5, least, 0}, {-0.5, least, minus}, {0.5, 0x3p-1074, 0x1p-1073}, {0.75, least, least}, {0.5, greatest, 0x1.fffffffffffffp1022}, {1, greatest, greatest}, {-1, greatest, -greatest},
		{greatest, least, 0x1.fffffffffffffp-51}, {greatest, 0, 0}, {least, least, 0}, {0x1p1023, 0x1p-1023, 1}, {0x1.0000000000001p0, 0x1.0000000000001p0, 0x1.0000000000002p0},
		{0x1p512, 0x1.fffffffffffffp511, greatest},
	} {
		checkScale(t, x.x, []api.Flow{f(7, x.a, 3)}, flows(f(7, x.want, 3)))
		checkScale(t, x.x, []api.Flow{f(-7, x.a, -3), f(9, x.a, 8)}, flows(f(-7, x.want, -3), f(9, x.want, 8)))
	}
	for _, x := range []float64{2, -2, 0x1.0000000000001p0, greatest} {
		checkScale(t, x, []api.Flow{pay(1, greatest)}, wrong(api.ErrValue))
		checkScale(t, x, []api.Flow{pay(1, 1), pay(2, 0), pay(3, -greatest)}, wrong(api.ErrValue))
		checkScale(t, x, []api.Flow{pay(3, -greatest), pay(1, 1)}, wrong(api.ErrValue))
	}
	checkScale(t, 0x1p512, []api.Flow{pay(1, 0x1p512)}, wrong(api.ErrValue))
	for _, x := range []float64{nan, inf, -inf} {
		for _, l := range [][]api.Flow{nil, {}, {pay(3, 0)}, {pay(3, 1)}, {pay(3, nan)}} {
			checkScale(t, x, l, wrong(api.ErrValue))
		}
		for _, y := range []float64{0, 1, -1, minus} {
			checkScale(t, y, []api.Flow{pay(3, x)}, wrong(api.ErrValue))
			checkScale(t, y, []api.Flow{pay(3, 1), pay(3, x)}, wrong(api.ErrValue))
		}
	}
	for _, x := range []float64{0, minus, 1, greatest} {
		checkScale(t, x, nil, flows())
		checkScale(t, x, []api.Flow{}, flows())
	}
	checkScale(t, 2, slices.Repeat([]api.Flow{pay(3, 1)}, 5000), flows(slices.Repeat([]api.Flow{pay(3, 2)}, 5000)...))
}

// Promise 14.5: Scale, of lists of all sorts.
func TestScaleSteps(t *testing.T) {
	state := uint64(145)
	good, bad := 0, 0
	for range 2000 {
		l, x := someFlows(&state, 5), someAmount(&state)
		want := flows()
		for _, y := range l {
			want.l = append(want.l, f(y.Day, times(x, y.Amount), y.Cur))
		}
		if slices.ContainsFunc(want.l, func(y api.Flow) bool { return !isNumber(y.Amount) }) {
			want = wrong(api.ErrValue)
			bad++
		} else {
			good++
		}
		checkScale(t, x, l, want)
	}
	if good < 500 || bad < 100 {
		t.Errorf("only %d lists, %d errors", good, bad)
	}
}

// Promise 14.5: Window takes the days from a on, ahead of b, in their order, whatever else they are.
func TestWindow(t *testing.T) {
	l := []api.Flow{pay(3, 1), f(1, nan, 9), pay(2, minus), pay(3, 2), f(math.MinInt, 4, 0), pay(0, 5), f(math.MaxInt, 6, 2), f(-1, 7, 3)}
	checkWindow(t, nil, 0, 9)
	checkWindow(t, []api.Flow{}, 0, 9)
	checkWindow(t, l, 1, 3, l[1], l[2])
	checkWindow(t, l, 1, 4, l[0], l[1], l[2], l[3])
	checkWindow(t, l, 3, 4, l[0], l[3])
	checkWindow(t, l, 3, 3)
	checkWindow(t, l, 4, 3)
	checkWindow(t, l, math.MaxInt, math.MinInt)
	checkWindow(t, l, 0, 1, l[5])
	checkWindow(t, l, -1, 1, l[5], l[7])
	checkWindow(t, l, math.MinInt, math.MaxInt, l[0], l[1], l[2], l[3], l[4], l[5], l[7])
	checkWindow(t, l, math.MinInt, math.MinInt+1, l[4])
	checkWindow(t, l, math.MinInt+1, 0, l[7])
	checkWindow(t, l, math.MinInt, math.MinInt)
	checkWindow(t, l, math.MaxInt, math.MaxInt)
	checkWindow(t, l, 4, math.MaxInt)
	long := slices.Repeat(l[:1], 5000)
	checkWindow(t, long, 3, 4, long...)
}

// Promise 14.6: Shift moves the days alone.
func TestShift(t *testing.T) {
	const jan31, feb28, mar28 = 45686, 45714, 45742 // of 2025
	checkShift(t, nil, 5, flows())
	checkShift(t, nil, math.MaxInt, flows())
	checkShift(t, []api.Flow{}, math.MinInt, flows())
	l := []api.Flow{f(jan31, nan, 9), f(feb28, minus, -3)}
	checkShift(t, l, 0, flows(l...))
	checkShift(t, l, 1, flows(f(feb28, nan, 9), f(mar28, minus, -3)))
	checkShift(t, []api.Flow{pay(feb28, 1)}, -1, flows(pay(jan31-3, 1)))
	checkShift(t, []api.Flow{pay(30, 1), pay(0, 2)}, 1, flows(pay(58, 1), pay(31, 2)))
	checkShift(t, []api.Flow{pay(api.LastDay, 1)}, -1, flows(pay(api.LastDay-31, 1)))
	checkShift(t, []api.Flow{pay(0, 1)}, 3599, flows(pay(api.LastDay-30, 1)))
	checkShift(t, []api.Flow{pay(api.LastDay, 1)}, -3599, flows(pay(30, 1)))
	for _, x := range []struct{ day, months int }{
		{0, -1}, {30, -1}, {0, 3600}, {api.LastDay, 1}, {api.LastDay - 30, 1}, {api.LastDay, -3600}, {jan31, math.MaxInt}, {jan31, math.MinInt}, {-1, 0}, {-1, 5}, {api.LastDay + 1, 0}, {api.LastDay + 1, -1}, {math.MinInt, 1}, {math.MaxInt, -1},
	} {
		checkShift(t, []api.Flow{pay(x.day, 1)}, x.months, wrong(api.ErrRange))
		checkShift(t, []api.Flow{pay(x.day, 1), pay(jan31, 1)}, x.months, wrong(api.ErrRange))
		checkShift(t, []api.Flow{pay(jan31, 1), pay(x.day, 1)}, x.months, wrong(api.ErrRange))
	}
	state := uint64(146)
	good, bad := 0, 0
	for range 2000 {
		l, months := someFlows(&state, 5), below(&state, 3000)-1500
		want := stepShift(l, months)
		checkShift(t, l, months, want)
		if want.e == api.OK {
			good++
		} else {
			bad++
		}
	}
	if good < 500 || bad < 200 {
		t.Errorf("only %d lists, %d errors", good, bad)
	}
}

// Promise 14.7: by hand: noughts, what cancels, what is too great on the way or in the end.
func TestNetHand(t *testing.T) {
	for _, x := range []struct{ l, want []api.Flow }{
		{nil, nil},
		{[]api.Flow{}, nil},
		{[]api.Flow{pay(3, minus)}, []api.Flow{pay(3, 0)}},
		{[]api.Flow{pay(3, minus), pay(3, minus)}, []api.Flow{pay(3, 0)}},
		{[]api.Flow{pay(3, 5), pay(3, -5)}, []api.Flow{pay(3, 0)}},
		{[]api.Flow{pay(3, 1), pay(3, 0x1p-60), pay(3, -1)}, []api.Flow{pay(3, 0x1p-60)}},
		{[]api.Flow{pay(3, 1), pay(3, 0x1p-53), pay(3, least)}, []api.Flow{pay(3, 0x1.0000000000001p0)}},
		{[]api.Flow{pay(3, 1), pay(3, 0x1p-53)}, []api.Flow{pay(3, 1)}},
		{[]api.Flow{pay(3, greatest), pay(3, greatest), pay(3, -greatest), pay(3, -greatest), pay(3, -least)}, []api.Flow{pay(3, -least)}},
		{[]api.Flow{pay(3, greatest), pay(3, 0x1p969)}, []api.Flow{pay(3, greatest)}},
		{[]api.Flow{pay(3, greatest), pay(3, 0x1p970), pay(3, -least)}, []api.Flow{pay(3, greatest)}},
		// By currency, then by day.
		{[]api.Flow{f(9, 1, 2), f(3, 2, 8), f(9, 3, 1), f(3, 4, 2), f(0, 5, 8), f(api.LastDay, 6, 1), f(9, 7, 2)},
			[]api.Flow{f(9, 3, 1), f(api.LastDay, 6, 1), f(3, 4, 2), f(9, 8, 2), f(0, 5, 8), f(3, 2, 8)}},
		// One day in two currencies, one currency on two days: none of them makes another one's nought.
		{[]api.Flow{f(2, 1, 1), f(1, -1, 2), f(1, 1, 1), f(2, -1, 2)}, []api.Flow{f(1, 1, 1), f(2, 1, 1), f(1, -1, 2), f(2, -1, 2)}},
	} {
		checkNet(t, x.l, flows(x.want...))
	}
	for _, l := range [][]api.Flow{
		{pay(5, 1e308), pay(5, 1e308)},
		{pay(5, -1e308), pay(5, -1e308)},
		{pay(5, greatest), pay(5, 0x1p970)},
		{pay(5, -greatest), pay(5, -0x1p970)},
		{pay(5, greatest), pay(7, 1), f(5, -greatest, 2), pay(5, greatest)},
		{f(1, 1, 1), f(9, greatest, 8), f(9, greatest, 8)},
	} {
		checkNet(t, l, wrong(api.ErrValue))
	}
}

// Promises 14.7 and 14.8: against sums of rationals; in any order, and of Net itself.
func TestNetSteps(t *testing.T) {
	state := uint64(147)
	good, bad := 0, 0
	for range 1500 {
		l := someFlows(&state, []int{3, 12, 90}[below(&state, 3)])
		want := stepNet(l)
		checkNet(t, l, want)
		checkNet(t, mixed(&state, l), want)
		if want.e != api.OK {
			bad++
			continue
		}
		good++
		checkNet(t, want.l, want)
		checkNet(t, mixed(&state, want.l), want)
	}
	if good < 300 || bad < 100 {
		t.Errorf("only %d lists, %d errors", good, bad)
	}
}

// Promise 14.8: a list and its Give come to +0, on each day and in each currency that occurs.
func TestNetGive(t *testing.T) {
	state := uint64(148)
	for range 500 {
		l := someFlows(&state, 60)
		both := mixed(&state, slices.Concat(l, flow.Give(l)))
		got, e := flow.Net(both)
		if e != api.OK || len(l) > 0 && len(got) == 0 {
			t.Errorf("Net(%v) is %v, %v", both, got, e)
		}
		for _, x := range got {
			if math.Float64bits(x.Amount) != 0 {
				t.Errorf("Net(%v) is %v", both, got)
			}
		}
		for _, x := range l {
			if !slices.Contains(got, f(x.Day, 0, x.Cur)) {
				t.Errorf("Net(%v) is %v, without %v", both, got, x)
			}
		}
	}
}

// Promise 14.7: as many flows as may be, of as many days as flows, of all currencies on few days, and all on one.
func TestNetFull(t *testing.T) {
	var apart, few, one, want []api.Flow
	for i := range api.MaxFlows {
		day := (i * 2731) % api.MaxFlows
		apart = append(apart, f(day, float64(day)+0.5, 3))
		want = append(want, f(i, float64(i)+0.5, 3))
		few = append(few, f(i%64, 1, 8-i/64%8))
		one = append(one, pay(77, greatest*float64(1-2*(i%2))))
	}
	checkNet(t, apart, flows(want...))
	want = nil
	for i := range 512 {
		want = append(want, f(i%64, 8, 1+i/64))
	}
	checkNet(t, few, flows(want...))
	checkNet(t, one, flows(pay(77, 0)))
}

// Promise 14.9: Give of Give, Scale by 1 and by -1.
func TestTurned(t *testing.T) {
	state := uint64(149)
	for range 500 {
		l := someFlows(&state, 30)
		checkGive(t, flow.Give(l), l)
		checkScale(t, 1, l, flows(l...))
		checkScale(t, -1, l, flows(flow.Give(l)...))
	}
	l := []api.Flow{f(3, nan, 7), f(-3, inf, 0), f(3, -inf, 9)}
	checkGive(t, flow.Give(l), l)
}

// Promise 14.9: a window cut in two has the same flows.
func TestWindowCut(t *testing.T) {
	state := uint64(150)
	for range 1000 {
		l := someFlows(&state, 30)
		from := 0
		if len(l) > 0 {
			from = l[0].Day
		}
		cuts := []int{from + below(&state, 60) - 30, from + below(&state, 60) - 30, from + below(&state, 60) - 30}
		slices.Sort(cuts)
		a, b, c := cuts[0], cuts[1], cuts[2]
		whole, near, far := flow.Window(l, a, c), flow.Window(l, a, b), flow.Window(l, b, c)
		for _, x := range l {
			is := func(y api.Flow) bool { return sameFlow(x, y) }
			n := 0
			for _, part := range [][]api.Flow{near, far} {
				if slices.ContainsFunc(part, is) {
					n++
				}
			}
			if in := slices.ContainsFunc(whole, is); in != (n == 1) || n > 1 || in != (a <= x.Day && x.Day < c) {
				t.Errorf("of Window(%v, %d, %d, %d) %v is in %d parts", l, a, b, c, x, n)
			}
		}
		if len(near)+len(far) != len(whole) {
			t.Errorf("Window(%v, %d, %d) and (%d, %d) have %d and %d flows, together %d", l, a, b, b, c, len(near), len(far), len(whole))
		}
	}
}

// Promise 14.11: whatever is given, every call ends and none panics; beside an error there is no list.
func TestAnything(t *testing.T) {
	ints := []int{math.MinInt, -1, 0, 1, 2, 3, 4, 5, 6, 7, 8, 9, 30, 31, 1000, 1200, 1201, 45656, api.LastDay - 1, api.LastDay, api.LastDay + 1, math.MaxInt}
	numbers := []float64{0, minus, 1, -1, 0.05, 100, least, greatest, -greatest, inf, -inf, nan}
	calendars := []api.Calendar{{}, {}, week(), {Weekend: 126}, closed(), odd(), tooMany()}
	state := uint64(1411)
	any := func() int { return ints[below(&state, len(ints))] }
	small := func(n int) int {
		if below(&state, 12) == 0 {
			return any()
		}
		return below(&state, n)
	}
	number := func() float64 { return numbers[below(&state, len(numbers))] }
	checkError := func(name string, got, want list) {
		t.Helper()
		if !got.is(want) {
			t.Errorf("%s is %v, not %v", name, got, want)
		}
	}
	for range 6000 {
		s := api.Spec{Start: any(), End: any(), N: any(), Unit: small(5), Stub: small(5), Roll: small(3), Conv: small(5), Lag: small(31), Cal: calendars[below(&state, len(calendars))]}
		if below(&state, 2) == 0 {
			s.Start, s.End = 45000, 45000+below(&state, 2000)
		}
		g := api.Leg{Kind: small(3), Count: small(7), Cur: small(9), Notional: number(), Rate: number(), Spec: s}
		c := api.Curve{Base: any(), Kind: small(5), Days: []int{any(), 60000}, Factors: []float64{0.9, number()}}
		checkError("Fixed", told(flow.Fixed(g)), stepFixed(g))
		checkError("Bond", told(flow.Bond(g)), stepBond(g))
		checkError("Float", told(flow.Float(g, c)), stepFloat(g, c))
		var l []api.Flow
		for range below(&state, 4) {
			l = append(l, f(any(), number(), small(9)))
		}
		e, at := stepCheck(l)
		checkCheck(t, l, e, at)
		checkError("Net", told(flow.Net(l)), stepNet(l))
		months := any()
		checkError("Shift", told(flow.Shift(l, months)), stepShift(l, months))
		checkGive(t, flow.Give(l), l)
		flow.Scale(number(), l)
		flow.Window(l, any(), any())
	}
}

// answers is what the calls tell of a list.
func answers(l []api.Flow) [][]api.Flow {
	scaled, _ := flow.Scale(2, l)
	shifted, _ := flow.Shift(l, 1)
	netted, _ := flow.Net(l)
	return [][]api.Flow{flow.Give(l), scaled, flow.Window(l, 0, api.LastDay), shifted, netted}
}

// wipe writes over a list, its spare room too.
func wipe(l []api.Flow) {
	l = l[:cap(l)]
	for i := range l {
		l[i] = f(-1, -1, -1)
	}
}

// DOC.md, rules 3 and 8, and promise 14.11: what is given stays as it was, its spare room too; what is told is new memory; nothing is kept.
func TestMemory(t *testing.T) {
	spare := []api.Flow{f(9, 1, 2), f(3, 2, 8), f(9, 3, 1), f(3, -4, 2), f(7, 5, 7), f(70, 77, 77), f(71, 78, 78), f(72, 79, 79)}
	given := slices.Clone(spare)
	l := given[:5]
	flow.Check(l)
	before := answers(l)
	for _, a := range before {
		kept := slices.Clone(a)
		if len(a) != 5 {
			t.Errorf("an answer is %v", a)
		}
		wipe(a)
		copy(a, kept)
	}
	if !slices.Equal(given, spare) {
		t.Errorf("the list is %v", given)
	}
	after := answers(l)
	for i := range after {
		if !same(before[i], after[i]) {
			t.Errorf("first %v, then %v", before[i], after[i])
		}
	}
	wipe(given)
	for i := range after {
		if !same(before[i], after[i]) {
			t.Errorf("an answer %v changes with the list that was given: %v", before[i], after[i])
		}
	}
}

// The same of legs.
func TestLegMemory(t *testing.T) {
	rules := append(week().Rules, api.Rule{Kind: 77}, api.Rule{Kind: 78})
	days, factors := []int{45700, 46000, 47000, 1, 2}, []float64{0.9, 0.8, 0.7, 3, 4}
	g := leg(api.LFixed, api.DOpen, 100, 0.05, halves())
	g.Spec.Cal = api.Calendar{Weekend: 96, Rules: slices.Clone(rules)[:1]}
	h := g
	h.Kind = api.LFloat
	for _, kind := range kinds() {
		c := api.Curve{Base: jan15, Kind: kind, Days: slices.Clone(days)[:3], Factors: slices.Clone(factors)[:3]}
		for range 2 {
			for _, x := range []struct {
				got  list
				want list
			}{{told(flow.Fixed(g)), stepFixed(g)}, {told(flow.Bond(g)), stepBond(g)}, {told(flow.Float(h, c)), stepFloat(h, c)}} {
				if x.got.e != api.OK || !x.got.is(x.want) {
					t.Errorf("kind %d: %v, not %v", kind, x.got, x.want)
				}
				wipe(x.got.l)
			}
		}
		if !slices.Equal(c.Days[:5], days) || !slices.Equal(c.Factors[:5], factors) {
			t.Errorf("the curve is %v", c)
		}
	}
	if !slices.Equal(g.Spec.Cal.Rules[:3], rules) {
		t.Errorf("the rules are %v", g.Spec.Cal.Rules[:3])
	}
}
