package grid_test

import (
	"math"
	"slices"
	"testing"

	"tenor/api"
	"tenor/grid"
	"tenor/risk"
)

// checkRun holds one answer of Run.
func checkRun(t *testing.T, l []api.Flow, cur int, c api.Curve, s []api.Shift, want answer) {
	t.Helper()
	if got := list(grid.Run(l, cur, c, s)); !got.is(want) {
		t.Errorf("Run(%v, %d, %v, %v) is %x (%v), not %x (%v)", l, cur, c, s, got.l, got.e, want.l, want.e)
	}
}

// held is flows of which some are ahead of the market's base, in another currency, or behind its last day in a third.
func held() []api.Flow {
	const b = 45290
	return []api.Flow{pay(b, 5), pay(b+60, 100), pay(b+91, -40.25), pay(b+365, 250), pay(b+475, 12.5), pay(b+900, -300), pay(b+1299, 0.1), pay(b+2222, 1000), pay(b+3000, -7.75), pay(b-1, 1e9), f(b+40, 1e6, 2), f(b+3001, 5, 3)}
}

// Promise 25.2: bits, reckoned elsewhere.
func TestRunKnown(t *testing.T) {
	s := []api.Shift{all(0.0001), all(-0.03), node(0, 0.01), node(1, -0.02), node(2, 0.5), node(3, 0), node(4, 1e-9), node(5, -0.001), tilt(0.002), tilt(-0.01), tilt(0)}
	for kind, want := range map[int][]float64{
		api.IFlat:   {-0x1.df20646b37000p-3, 0x1.28e8ee5404c28p+6, -0x1.07f61b13b8400p-1, 0x1.0d84fe60c9000p-2, 0, 0, -0x1.8f35280000000p-19, -0x1.6eef948a94000p-5, -0x1.114bbe98dd320p+4, 0x1.6d6076120b138p+6, 0},
		api.ILinear: {-0x1.9de6e6ccf7800p-2, 0x1.0ea5dd5563b98p+7, -0x1.0fd534e195000p-3, 0x1.33296803ffa00p+2, -0x1.8e75e45e34200p+1, 0, -0x1.6d78d80000000p-20, 0x1.8b7e724f92200p+1, -0x1.b1e0b2d8459c0p+5, 0x1.8f29fc9fe3fdcp+8, 0},
		api.ICubic:  {-0x1.a16b65f000000p-2, 0x1.11a67c64f8f7cp+7, -0x1.0de2cc6ca1000p-3, 0x1.4c2f28d467c00p+2, -0x1.132141252b100p+1, 0, -0x1.f8c8880000000p-20, 0x1.7758f18894d00p+1, -0x1.ab8db1aeba550p+5, 0x1.68655ba6f9a76p+8, 0},
		api.ILog:    {-0x1.ac20df6a59800p-2, 0x1.144165a82bc40p+7, -0x1.0cdce4c4c7000p-3, 0x1.33fe6e88d4300p+2, -0x1.daeade2de9400p+1, 0, -0x1.4c32f60000000p-20, 0x1.ac56bad3a6800p+1, -0x1.d380e59820170p+5, 0x1.7e4333a1fbcdap+8, 0},
	} {
		checkRun(t, held(), 1, market(kind), s, value(want...))
		checkRun(t, held(), 4, market(kind), s, value(make([]float64, len(s))...))
		checkRun(t, held(), 3, market(kind), s, wrong(api.ErrRange))
	}
}

// Promise 25.2: each step, of all sorts of curves, flows and shifts.
func TestRunSteps(t *testing.T) {
	state := uint64(252)
	seen := map[api.Errno]int{}
	for i := range 6000 {
		c := someCurve(&state, 1+i%4)
		l := someFlows(&state, 6, c)
		var s []api.Shift
		for range below(&state, 4) {
			s = append(s, someShift(&state, c))
		}
		want := stepRun(l, 1, c, s)
		checkRun(t, l, 1, c, s, want)
		seen[want.e]++
	}
	if seen[api.OK] < 2000 || seen[api.ErrValue] < 500 || seen[api.ErrKind] < 200 || seen[api.ErrArg] < 100 || seen[api.ErrRange] < 100 {
		t.Errorf("only %v", seen)
	}
}

// Promise 25.2: a shift of all is risk's Delta, those of single nodes are its Ladder.
func TestRunRisk(t *testing.T) {
	state := uint64(2520)
	ok := 0
	for i := range 1000 {
		c := someCurve(&state, 1+i%4)
		l, h := someFlows(&state, 5, c), someBump(&state, c)
		checkRun(t, l, 1, c, []api.Shift{all(h)}, one(risk.Delta(l, 1, c, h)))
		var s []api.Shift
		for n := range c.Days {
			s = append(s, node(n, h))
		}
		want := list(risk.Ladder(l, 1, c, h))
		checkRun(t, l, 1, c, s, want)
		if want.e == api.OK {
			ok++
		}
	}
	if ok < 400 {
		t.Errorf("only %d", ok)
	}
}

// Promise 25.2: no shift, no flow, as many of all as may be, and one more.
func TestRunLimits(t *testing.T) {
	checkRun(t, held(), 1, market(api.ICubic), nil, value())
	checkRun(t, held(), 1, market(api.ICubic), []api.Shift{}, value())
	checkRun(t, nil, 1, given(), []api.Shift{all(1), node(1, 2), tilt(3)}, value(0, 0, 0))
	state := uint64(25200)
	c := market(api.ILinear)
	var s []api.Shift
	for range 256 {
		s = append(s, []api.Shift{all(unit(&state)), node(below(&state, 6), unit(&state)), tilt(unit(&state) / 10)}[below(&state, 3)])
	}
	checkRun(t, held(), 1, c, s, stepRun(held(), 1, c, s))
	checkRun(t, held(), 1, c, append(s, all(0)), wrong(api.ErrLong))
	c = full(api.ICubic)
	var l []api.Flow
	for range 4096 {
		l = append(l, pay(inside(&state, c), float64(below(&state, 1000))))
	}
	s = []api.Shift{tilt(0.01), node(254, -0.5)}
	checkRun(t, l, 1, c, s, stepRun(l, 1, c, s))
	checkRun(t, append(l, pay(100, 1)), 1, c, s, wrong(api.ErrMany))
}

// Promise 25.2: what is wrong: how many shifts, then Present's errors, then the shifts in their order, then what comes.
func TestRunRefused(t *testing.T) {
	l, bad := []api.Flow{pay(365, 1)}, []api.Shift{{}}
	long := slices.Repeat(bad, 257)
	checkRun(t, []api.Flow{pay(-1, nan)}, 9, api.Curve{}, long, wrong(api.ErrLong))
	checkRun(t, l, 1, given(), long, wrong(api.ErrLong))
	for _, s := range [][]api.Shift{nil, bad, {all(0.1)}, {all(nan)}, {{Kind: 9}, all(nan)}} {
		for _, x := range badCurves() {
			checkRun(t, l, 1, x.c, s, wrong(x.e))
			checkRun(t, l, 9, x.c, s, wrong(api.ErrCur))
		}
		for _, cur := range []int{math.MinInt, -1, 0, 9, 1<<32 + 1, math.MaxInt} {
			checkRun(t, l, cur, given(), s, wrong(api.ErrCur))
			checkRun(t, []api.Flow{pay(10, nan)}, cur, given(), s, wrong(api.ErrValue))
		}
		checkRun(t, []api.Flow{pay(-1, nan)}, 9, given(), s, wrong(api.ErrRange))
		checkRun(t, slices.Repeat(l, 4097), 1, given(), s, wrong(api.ErrMany))
		checkRun(t, []api.Flow{pay(731, 1)}, 1, given(), s, wrong(api.ErrRange))
		checkRun(t, []api.Flow{pay(0, greatest), pay(0, greatest)}, 1, given(), s, wrong(api.ErrValue))
	}
	ok := all(0.1)
	for _, x := range []struct {
		s []api.Shift
		e api.Errno
	}{
		{[]api.Shift{ok, {Kind: 4}, node(2, 1), all(nan)}, api.ErrKind},
		{[]api.Shift{ok, node(2, 1), {Kind: 4}, all(nan)}, api.ErrArg},
		{[]api.Shift{ok, all(nan), {Kind: 4}, node(2, 1)}, api.ErrValue},
		{[]api.Shift{ok, ok, ok, {Kind: api.GTilt, Node: 1}}, api.ErrArg},
		{[]api.Shift{tilt(1e308), {}}, api.ErrValue},
	} {
		checkRun(t, l, 1, given(), x.s, wrong(x.e))
		// A list of no flow has its shifts asked too.
		checkRun(t, nil, 1, given(), x.s, wrong(x.e))
	}
	// On the shifted curve the worth may be too great, and where it is not, the difference may be.
	great := []api.Flow{pay(365, greatest), pay(730, -greatest)}
	checkRun(t, great, 1, given(), []api.Shift{node(0, -0.9), {}}, wrong(api.ErrKind))
	checkRun(t, great, 1, given(), []api.Shift{node(0, -1), {}}, wrong(api.ErrValue))
	c := with(given(), 0.9, 0.0625)
	checkRun(t, []api.Flow{pay(365, -greatest), pay(730, greatest)}, 1, c, []api.Shift{node(1, -1.41), {}}, wrong(api.ErrKind))
	checkRun(t, []api.Flow{pay(365, -greatest), pay(730, greatest)}, 1, c, []api.Shift{node(1, -1.45), {}}, wrong(api.ErrValue))
}

// Promise 25.5: the numbers stand in the order of the shifts; a shift by 0 tells +0.
func TestRunOrder(t *testing.T) {
	state := uint64(2550)
	held := 0
	for i := range 600 {
		c := someCurve(&state, 1+i%4)
		l := someFlows(&state, 6, c)
		var s, nought []api.Shift
		for range 6 {
			x := someShift(&state, c)
			s = append(s, x)
			if x.H = math.Copysign(0, x.H); stepApply(c, x).e == api.OK {
				nought = append(nought, x)
			}
		}
		if want := stepRun(l, 1, c, nil); want.e == api.OK {
			checkRun(t, l, 1, c, nought, value(make([]float64, len(nought))...))
		}
		x, e := grid.Run(l, 1, c, s)
		if e != api.OK {
			continue
		}
		held++
		order := []int{0, 1, 2, 3, 4, 5}
		shuffle(&state, order)
		var m []api.Shift
		var want []float64
		for _, j := range order {
			m, want = append(m, s[j]), append(want, x[j])
		}
		checkRun(t, l, 1, c, m, value(want...))
	}
	if held < 40 {
		t.Errorf("only %d lists", held)
	}
}

// DOC.md, rules 3 and 8, and promise 25.8: what is given stays as it was, its spare room too; what is told is new memory.
func TestRunKeeps(t *testing.T) {
	days, factors := []int{365, 730, 7, 8}, []float64{0.5, 0.25, 7, 8}
	flows := []api.Flow{pay(400, 2), pay(100, 1), pay(-5, nan), pay(-6, nan)}
	shifts := []api.Shift{tilt(0.1), node(1, 0.2), all(-0.1), {Kind: 77}, {Kind: 78}}
	keptFlows, keptShifts := slices.Clone(flows[:2]), slices.Clone(shifts)
	c := api.Curve{Base: 0, Kind: api.ILog, Days: days[:2], Factors: factors[:2]}
	run := func() answer { return list(grid.Run(flows[:2], 1, c, shifts[:3])) }
	first, second := run(), run()
	log := given()
	log.Kind = api.ILog
	want := stepRun(keptFlows, 1, log, keptShifts[:3])
	x := first.l[:cap(first.l)]
	for i := range x {
		x[i] = 99
	}
	if !second.is(want) || !run().is(want) {
		t.Errorf("Run tells %x, not %x", second.l, want.l)
	}
	unchanged := slices.Equal(days, []int{365, 730, 7, 8}) && slices.Equal(factors, []float64{0.5, 0.25, 7, 8}) && slices.Equal(flows[:2], keptFlows) && flows[2].Day == -5 && flows[3].Day == -6 && slices.Equal(shifts, keptShifts)
	if !unchanged {
		t.Errorf("Run made %v, %v, %v, %v of what it was given", days, factors, flows, shifts)
	}
	wipeCurve(c)
	clear(flows)
	clear(shifts)
	if !second.is(want) {
		t.Errorf("Run keeps what it was given")
	}
}
