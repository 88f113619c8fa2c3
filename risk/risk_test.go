package risk_test

import (
	"math"
	"slices"
	"testing"

	"tenor/api"
	"tenor/flow"
	"tenor/fn"
	"tenor/risk"
)

// checkLadder, checkDelta and checkGamma hold one answer each.
func checkLadder(t *testing.T, l []api.Flow, cur int, c api.Curve, h float64, want answer) {
	t.Helper()
	if got := list(risk.Ladder(l, cur, c, h)); !got.is(want) {
		t.Errorf("Ladder(%v, %d, %v, %x) is %x, %v, not %x, %v", l, cur, c, h, got.l, got.e, want.l, want.e)
	}
}

func checkDelta(t *testing.T, l []api.Flow, cur int, c api.Curve, h float64, want answer) {
	t.Helper()
	if got := one(risk.Delta(l, cur, c, h)); !got.is(want) {
		t.Errorf("Delta(%v, %d, %v, %x) is %x, %v, not %x, %v", l, cur, c, h, got.l, got.e, want.l, want.e)
	}
}

func checkGamma(t *testing.T, l []api.Flow, cur int, c api.Curve, h float64, want answer) {
	t.Helper()
	if got := one(risk.Gamma(l, cur, c, h)); !got.is(want) {
		t.Errorf("Gamma(%v, %d, %v, %x) is %x, %v, not %x, %v", l, cur, c, h, got.l, got.e, want.l, want.e)
	}
}

// checkSteps holds all three against the chapter's steps.
func checkSteps(t *testing.T, l []api.Flow, cur int, c api.Curve, h float64) {
	t.Helper()
	checkLadder(t, l, cur, c, h, stepLadder(l, cur, c, h))
	checkDelta(t, l, cur, c, h, stepDelta(l, cur, c, h))
	checkGamma(t, l, cur, c, h, stepGamma(l, cur, c, h))
}

// checkWrong holds that all three answer that error, and nothing beside it.
func checkWrong(t *testing.T, l []api.Flow, cur int, c api.Curve, h float64, want api.Errno) {
	t.Helper()
	if got, e := risk.Ladder(l, cur, c, h); len(got) != 0 || e != want {
		t.Errorf("Ladder of %d flows in %d on %v by %x is %v, %v, not %v", len(l), cur, c, h, got, e, want)
	}
	if got := one(risk.Delta(l, cur, c, h)); !got.is(wrong(want)) {
		t.Errorf("Delta of %d flows in %d on %v by %x is %v, not %v", len(l), cur, c, h, got, want)
	}
	if got := one(risk.Gamma(l, cur, c, h)); !got.is(wrong(want)) {
		t.Errorf("Gamma of %d flows in %d on %v by %x is %v, not %v", len(l), cur, c, h, got, want)
	}
}

// Promises 16.2 and 16.3: bits, reckoned elsewhere.
func TestLadderKnown(t *testing.T) {
	const b = 45290
	type known struct {
		ladder       []float64
		delta, gamma float64
	}
	for _, x := range []struct {
		l    []api.Flow
		h    float64
		want [4]known // kind by kind
	}{
		{
			[]api.Flow{f(b+755, -976.69, 1)}, 0.0001,
			[4]known{
				{[]float64{0, 0, 0x1.1ba284af72p-3, 0, 0, 0}, 0x1.1ba284af72p-3, -0x1.5e25f92p-16},
				{[]float64{0, 0, 0x1.d606007334p-5, 0x1.ff4294476p-4, 0, 0}, 0x1.7522ca407bp-3, -0x1.4abdecap-15},
				{[]float64{0, -0x1.9ca7816ef8p-6, 0x1.74fcaf2622p-4, 0x1.232dc9aa4cp-3, -0x1.754cbf1ca8p-6, 0}, 0x1.7b9ffee82p-3, -0x1.8a80adbp-15},
				{[]float64{0, 0, 0x1.c56c8b5c04p-5, 0x1.063c6d80bbp-3, 0, 0}, 0x1.77935f84c1p-3, -0x1.3e3dbf9p-15},
			},
		},
		{
			[]api.Flow{f(b+48, -683.97, 1), f(b-31, -890.1, 1), f(b+503, 714.68, 1), f(b+91, 100.0, 2)}, -0.01,
			[4]known{
				{[]float64{0, 0x1.dee972008a668p+2, 0, 0, 0, 0}, 0x1.dee972008a668p+2, 0x1.4e0f80c4ec2p-4},
				{[]float64{-0x1.c72755c85ffap-1, 0x1.2c1e3d3389ecp+1, 0x1.c0c3f0b75f164p+2, 0, 0, 0}, 0x1.0ef7124c0c068p+3, 0x1.0692506eb3bcp-3},
				{[]float64{-0x1.0cccb14a140a4p+0, 0x1.533cd256162fp+1, 0x1.c141b15754d74p+2, -0x1.b02e7f72526ap-3, 0, 0}, 0x1.0ba2a6c8ef66p+3, 0x1.1410cb2d815p-4},
				{[]float64{-0x1.c9af59c300878p-1, 0x1.29054087d232bp+1, 0x1.c10e94fc07f6p+2, 0, 0, 0}, 0x1.0ef35b0c42723p+3, 0x1.03fb66883a6cp-3},
			},
		},
		{
			[]api.Flow{f(b+881, -765.74, 1), f(b+2800, -288.52, 1), f(b+978, -311.32, 1), f(b+1354, 595.23, 1), f(b+1151, 849.68, 2), f(b+1622, -537.23, 1)}, 0.25,
			[4]known{
				{[]float64{0, 0, 0x1.c465aaf12acf4p+7, 0x1.fb1a8370d1eep+6, 0x1.c5f12ce8b2bp+6, 0}, 0x1.d275c18ef68f4p+8, -0x1.7684170efd85cp+8},
				{[]float64{0, 0, 0x1.88f0715de7b8p+3, 0x1.8cf3b582ef6a4p+8, -0x1.6be7ce75e9ap+4, 0x1.9c0d093caf1f8p+7}, 0x1.2841a0626bcfp+9, -0x1.ac557575a0ef4p+10},
				{[]float64{0, -0x1.0d49ac114p-4, 0x1.7ac261a71ep+0, 0x1.9eb0cf5e2023ap+8, -0x1.368477cc91c8p+4, 0x1.6c6be0bc1e8f8p+7}, 0x1.2b084db062488p+9, -0x1.9adc752ebbd64p+10},
				{[]float64{0, 0, 0x1.b87069c455p+3, 0x1.96f09f9e6335cp+8, 0x1.7105acc9484p+0, 0x1.194a3f7d09516p+8}, 0x1.30a956ec90202p+9, -0x1.810eb846d9903p+10},
			},
		},
		{
			[]api.Flow{f(b, 5.0, 1), f(b+3000, 104.25, 1), f(b+1900, 4.25, 1), f(b+1300, 4.25, 1), f(b+400, 4.25, 1), f(b+5, -7.5, 1)}, 1e-09,
			[4]known{
				{[]float64{0, -0x1.301fcp-28, 0, 0, -0x1.b2568p-26, -0x1.4226758p-21}, -0x1.5219698p-21, 0x1p-46},
				{[]float64{0x1.be1p-34, -0x1.301fcp-28, 0, 0, -0x1.65b0ap-26, -0x1.46c9158p-21}, -0x1.5448eap-21, 0x1p-45},
				{[]float64{0x1.cf9p-34, -0x1.3063cp-28, 0, 0x1.e394p-30, -0x1.96fc2p-26, -0x1.464baep-21}, -0x1.546411p-21, 0x1p-45},
				{[]float64{0x1.c38p-34, -0x1.301fcp-28, 0, 0, -0x1.5d399p-26, -0x1.4758408p-21}, -0x1.5494308p-21, 0x1p-46},
			},
		},
	} {
		for i, kind := range kinds() {
			c := market(kind)
			checkLadder(t, x.l, 1, c, x.h, value(x.want[i].ladder...))
			checkDelta(t, x.l, 1, c, x.h, value(x.want[i].delta))
			checkGamma(t, x.l, 1, c, x.h, value(x.want[i].gamma))
		}
	}
}

// Promises 16.2 and 16.3: each step, of all sorts of flows, curves and bumps.
func TestLadderSteps(t *testing.T) {
	state := uint64(162)
	ladders, deltas, gammas := map[api.Errno]int{}, map[api.Errno]int{}, map[api.Errno]int{}
	for i := range 4000 {
		c := someCurve(&state, 1+i%4)
		l := someFlows(&state, []int{2, 6, 12}[below(&state, 3)], c)
		cur := 1 + below(&state, 2)
		h := someBump(&state, c)
		checkSteps(t, l, cur, c, h)
		ladders[stepLadder(l, cur, c, h).e]++
		deltas[stepDelta(l, cur, c, h).e]++
		gammas[stepGamma(l, cur, c, h).e]++
	}
	for _, seen := range []map[api.Errno]int{ladders, deltas, gammas} {
		if seen[api.OK] < 1500 || seen[api.ErrValue] < 500 || seen[api.ErrRange] < 30 {
			t.Errorf("only %v", seen)
		}
	}
}

// Promises 16.2 and 16.3: by hand, with factors that are powers of 2: a bump by 0 of a node and a curve of one year.
func TestLadderHand(t *testing.T) {
	c := given()
	up := fn.Exp(-1)
	two := fn.Exp(-2)
	down := fn.Exp(1)
	// A flow at the first node alone, and one halfway to the second: half of each.
	checkLadder(t, []api.Flow{pay(365, 2)}, 1, c, 1, value(up-1, 0))
	checkLadder(t, []api.Flow{pay(730, 4)}, 1, c, 1, value(0, two-1))
	checkLadder(t, []api.Flow{pay(0, 9)}, 1, c, 1, value(0, 0))
	checkLadder(t, []api.Flow{f(365, 2, 2), f(730, 4, 3)}, 1, c, 1, value(0, 0))
	checkLadder(t, []api.Flow{f(365, 2, 2), f(730, 4, 3)}, 2, c, 1, value(up-1, 0))
	checkLadder(t, nil, 8, c, 1, value(0, 0))
	checkDelta(t, []api.Flow{pay(365, 2)}, 1, c, 1, value(up-1))
	checkDelta(t, []api.Flow{pay(730, -4)}, 1, c, 1, value(1-two))
	checkDelta(t, nil, 1, c, 1, value(0))
	checkGamma(t, []api.Flow{pay(365, 2)}, 1, c, 1, value((up-1)-(1-down)))
	checkGamma(t, []api.Flow{pay(365, 2)}, 1, c, -1, value((down-1)-(1-up)))
	checkGamma(t, []api.Flow{}, 1, c, 1, value(0))
	// What each present is, is rounded once, and then the difference.
	far := []api.Flow{pay(0, 0x1p60), pay(365, 2)}
	checkLadder(t, far, 1, c, 1, value(0, 0))
	checkLadder(t, append(far, pay(0, -0x1p60)), 1, c, 1, value(up-1, 0))
	// Bumped, the factor is the least number, and half of it rounds to a zero: of what is given to -0.
	tiny := years(1, 0x1p-1073)
	checkLadder(t, []api.Flow{pay(465, -0.5)}, 1, tiny, 1, value(least))
	checkLadder(t, []api.Flow{pay(465, 0.5)}, 1, tiny, 1, value(-least))
	checkLadder(t, []api.Flow{pay(465, -0.5), pay(100, least)}, 1, tiny, 1, value(0))
	// 0 as it is, and below 0 bumped, in the last case but so little that it rounds to -0: -0 less +0 is -0.
	checkDelta(t, []api.Flow{pay(465, -0x1p-60), pay(100, 0x1p-60)}, 1, years(1, 1), -0x1p-52, value(-0x1p-112))
	flat := api.Curve{Base: 0, Kind: api.IFlat, Days: []int{365, 730}, Factors: []float64{0x1p-900, 0x1p-900}}
	nought := []api.Flow{pay(365, -0x1p-200), pay(730, 0x1p-200)}
	checkLadder(t, nought, 1, flat, -0.25, value(minus, 0))
	checkLadder(t, nought, 1, flat, 0.25, value(0, minus))
	// Up -0, as it is and down +0: (-0 - 0) - (0 - 0) is -0; the other way round it is +0.
	checkGamma(t, nought, 1, flat, 0.25, value(minus))
	checkGamma(t, nought, 1, flat, -0.25, value(0))
}

// Promises 16.2 and 16.3: what comes is no number: of a node, of the worth on it, of the difference.
func TestLadderNoNumber(t *testing.T) {
	c := years(1, 1)
	g := greatest
	for _, x := range []struct {
		l      []api.Flow
		h      float64
		d, two bool // whether Delta, and whether Gamma, is refused
	}{
		{nil, 745, false, true}, // down: no factor
		{nil, -745, true, true}, // up
		{nil, 746, true, true},  // both
		{nil, 709.5, false, false},
		{[]api.Flow{pay(465, g)}, 0.5, false, true},
		{[]api.Flow{pay(465, g)}, -0.5, true, true},
		// From -0.9 g to 0.8 g: each is a number.
		{[]api.Flow{pay(465, g), pay(100, -g), pay(100, -0.9*g)}, -0.99, true, true},
		{[]api.Flow{pay(465, -g), pay(100, g), pay(100, 0.9*g)}, -0.99, true, true},
		{[]api.Flow{pay(465, g), pay(100, -g), pay(100, -0.9*g)}, -0.6, false, true},
	} {
		if got := one(risk.Delta(x.l, 1, c, x.h)); (got.e == api.ErrValue) != x.d {
			t.Errorf("Delta(%v, %v) is %v", x.l, x.h, got)
		}
		if got := one(risk.Gamma(x.l, 1, c, x.h)); (got.e == api.ErrValue) != x.two {
			t.Errorf("Gamma(%v, %v) is %v", x.l, x.h, got)
		}
		checkSteps(t, x.l, 1, c, x.h)
	}
	// Up and down the flows are worth 0.6 g more, which are numbers, but not the two together.
	c = api.Curve{Base: 0, Kind: api.IFlat, Days: []int{365, 730}, Factors: []float64{1, 1}}
	l := []api.Flow{pay(365, -g), pay(365, -g), pay(365, -g), pay(730, 0.6*g), pay(730, 0.6*g), pay(0, 0.9*g), pay(0, 0.9*g)}
	for _, h := range []float64{math.Ln2, -math.Ln2} {
		checkGamma(t, l, 1, c, h, wrong(api.ErrValue))
		if got := one(risk.Delta(l, 1, c, h)); got.e != api.OK || !(0.59*g < got.l[0] && got.l[0] < 0.61*g) {
			t.Errorf("Delta(%v, %v) is %v", l, h, got)
		}
	}
	// Two nodes: an error of the second one leaves nothing of the first.
	for _, h := range []float64{-360, 400, -1e308, 1e308} {
		checkLadder(t, []api.Flow{pay(365, 1)}, 1, given(), h, wrong(api.ErrValue))
	}
	checkLadder(t, []api.Flow{pay(365, 1)}, 1, given(), -354, value(0.5*fn.Exp(354)-0.5, 0))
	checkLadder(t, []api.Flow{pay(730, g), pay(730, g), pay(730, g)}, 1, given(), -1, wrong(api.ErrValue))
}

// badFlows is lists that may not be, each with its error.
func badFlows() map[string]struct {
	l []api.Flow
	e api.Errno
} {
	type bad = struct {
		l []api.Flow
		e api.Errno
	}
	good := pay(50, 1)
	return map[string]bad{
		"many":        {slices.Repeat([]api.Flow{good}, api.MaxFlows+1), api.ErrMany},
		"day":         {[]api.Flow{good, pay(-1, 1)}, api.ErrRange},
		"late":        {[]api.Flow{good, f(api.LastDay+1, nan, 9)}, api.ErrRange},
		"nan":         {[]api.Flow{good, pay(50, nan)}, api.ErrValue},
		"other's inf": {[]api.Flow{good, f(50, -inf, 2)}, api.ErrValue},
		"no currency": {[]api.Flow{good, f(50, 1, 0)}, api.ErrCur},
		"currency 9":  {[]api.Flow{f(50, 1, 9), f(50, nan, 1)}, api.ErrCur},
	}
}

// noCurs is ints that are no currencies.
func noCurs() []int {
	return []int{math.MinInt, -1, 0, 9, 256 + 1, 1<<32 + 8, math.MaxInt}
}

// Promises 16.2 and 16.3: what is wrong: the flows' error, the currency's, the curve's, that of a day, that of the worth, and then that of the bump.
func TestLadderRefusals(t *testing.T) {
	bumps := append([]float64{0, 0.01, -1e308}, noNumbers()...)
	curves := []api.Curve{given()}
	for _, x := range badCurves() {
		curves = append(curves, x.c)
	}
	l := []api.Flow{pay(365, 1), f(700, 2, 2)}
	for _, h := range bumps {
		for _, c := range curves {
			for _, x := range badFlows() {
				checkWrong(t, x.l, 1, c, h, x.e)
				checkWrong(t, x.l, 9, c, h, x.e)
			}
			for _, cur := range noCurs() {
				checkWrong(t, l, cur, c, h, api.ErrCur)
				checkWrong(t, nil, cur, c, h, api.ErrCur)
			}
		}
		for _, x := range badCurves() {
			checkWrong(t, l, 1, x.c, h, x.e)
			checkWrong(t, nil, 8, x.c, h, x.e)
		}
		checkWrong(t, append(l, pay(731, 1)), 1, given(), h, api.ErrRange)
		checkWrong(t, []api.Flow{pay(0, greatest), pay(0, greatest)}, 1, given(), h, api.ErrValue)
		checkWrong(t, []api.Flow{pay(0, greatest), pay(0, greatest), pay(731, 1)}, 1, given(), h, api.ErrRange)
	}
	for _, kind := range kinds() {
		c := given()
		c.Kind = kind
		for _, h := range noNumbers() {
			checkWrong(t, l, 1, c, h, api.ErrValue)
			checkWrong(t, nil, 1, c, h, api.ErrValue)
			checkWrong(t, l, 3, c, h, api.ErrValue)
		}
	}
}

// Promise 16.5 and W8 of DOC.md: a bump by 0 moves nothing.
func TestLadderNothing(t *testing.T) {
	state := uint64(1650)
	held := 0
	for i := range 2000 {
		c := someCurve(&state, 1+i%4)
		l := someFlows(&state, 10, c)
		if _, e := stepPresent(l, 1, c); e != api.OK {
			continue
		}
		held++
		for _, h := range []float64{0, minus} {
			checkLadder(t, l, 1, c, h, value(make([]float64, len(c.Days))...))
			checkDelta(t, l, 1, c, h, value(0))
			checkGamma(t, l, 1, c, h, value(0))
		}
	}
	if held < 1000 {
		t.Errorf("only %d lists", held)
	}
	// Flows that are worth less than nothing, but so little that it rounds to -0.
	c := years(1, least)
	checkLadder(t, []api.Flow{pay(465, -least)}, 1, c, 0, value(0))
	checkDelta(t, []api.Flow{pay(465, -least)}, 1, c, minus, value(0))
	checkGamma(t, []api.Flow{pay(465, -least)}, 1, c, 0, value(0))
}

// Promise 16.6: flows at which the curve does not hang on a node add nothing to its rung.
func TestLadderApart(t *testing.T) {
	state := uint64(166)
	held, moved := 0, 0
	for i := range 2500 {
		c := someCurve(&state, nearKinds()[i%3])
		node := below(&state, len(c.Days))
		first, end := reach(c, node)
		l := slices.DeleteFunc(someFlows(&state, 20, c), func(x api.Flow) bool {
			return first <= x.Day && x.Day <= end
		})
		// The days at the very edges, ahead and behind, as well.
		l = append(l, pay(first-1, someAmount(&state)))
		if end < last(c) {
			l = append(l, pay(end+1, someAmount(&state)))
		}
		rungs, e := risk.Ladder(l, 1, c, someBump(&state, c))
		if e != api.OK {
			continue
		}
		held++
		if math.Float64bits(rungs[node]) != 0 {
			t.Errorf("%v on %v: the rung %d is %x", l, c, node, rungs[node])
		}
		if slices.ContainsFunc(rungs, func(x float64) bool { return x != 0 }) {
			moved++
		}
	}
	if held < 1000 || moved < 400 {
		t.Errorf("only %d ladders, %d of them moved", held, moved)
	}
}

// Promise 16.7: with one node alone the ladder is the delta.
func TestLadderOne(t *testing.T) {
	state := uint64(167)
	held := 0
	for i := range 3000 {
		c := someCurve(&state, 1+i%4)
		c.Days, c.Factors = c.Days[:1], c.Factors[:1]
		l := someFlows(&state, 8, c)
		h := someBump(&state, c)
		want := list(risk.Ladder(l, 1, c, h))
		checkDelta(t, l, 1, c, h, want)
		if want.e == api.OK && want.l[0] != 0 {
			held++
		}
	}
	if held < 500 {
		t.Errorf("only %d ladders", held)
	}
}

// Promise 16.8: of amounts from 0 on no rung is above 0, if the bump is up; none below, if it is down.
func TestLadderWay(t *testing.T) {
	state := uint64(1681)
	held := 0
	for i := range 3000 {
		c := someCurve(&state, api.IFlat+i%2)
		h := someBump(&state, c)
		l := someFlows(&state, 10, c)
		for k := range l {
			l[k].Amount = math.Abs(l[k].Amount)
		}
		rungs, e := risk.Ladder(l, 1, c, h)
		if e != api.OK || !tells(c, h) {
			continue
		}
		for _, x := range rungs {
			if h >= 0 && x > 0 || h <= 0 && x < 0 {
				t.Errorf("Ladder(%v, 1, %v, %x) is %x", l, c, h, rungs)
			}
			if x != 0 {
				held++
			}
		}
	}
	if held < 1500 {
		t.Errorf("only %d rungs", held)
	}
}

// Promises 16.2 and 16.9: as many nodes as may be, and as many flows.
func TestLadderFull(t *testing.T) {
	state := uint64(169)
	for _, kind := range kinds() {
		c := full(kind)
		var l []api.Flow
		for range 50 {
			l = append(l, f(inside(&state, c), float64(below(&state, 100000))/100-500, 1+below(&state, 2)))
		}
		checkSteps(t, l, 1, c, 0.0001)
	}
	var l []api.Flow
	for i := range api.MaxFlows {
		l = append(l, pay(1+i%730, float64(i)))
	}
	checkSteps(t, l, 1, given(), 0.0001)
	checkWrong(t, append(l, pay(1, 1)), 1, given(), 0.0001, api.ErrMany)
}

// Promise 16.9: whatever is given, every call ends and none panics; beside an error there is nothing.
func TestAnything(t *testing.T) {
	ints := []int{math.MinInt, -1, 0, 1, 2, 3, 4, 5, 8, 9, 255, 256, 45656, api.LastDay - 1, api.LastDay, api.LastDay + 1, math.MaxInt}
	numbers := []float64{0, minus, 1, -1, 0.05, 100, least, greatest, -greatest, inf, -inf, nan}
	state := uint64(1690)
	any := func() int { return ints[below(&state, len(ints))] }
	small := func(n int) int {
		if below(&state, 12) == 0 {
			return any()
		}
		return below(&state, n)
	}
	for range 4000 {
		c := api.Curve{Base: any(), Kind: small(5), Days: []int{any(), 60000}, Factors: []float64{0.9, numbers[below(&state, len(numbers))]}}
		if below(&state, 2) == 0 {
			c = someCurve(&state, 1+below(&state, 4))
		}
		var l []api.Flow
		for range below(&state, 4) {
			l = append(l, f(any(), numbers[below(&state, len(numbers)-3)], 1+below(&state, 8)))
		}
		if below(&state, 4) == 0 {
			l = append(l, f(any(), numbers[below(&state, len(numbers))], small(9)))
		}
		h := numbers[below(&state, len(numbers))]
		i := any()
		checkBump(t, c, i, h, stepBump(c, i, h))
		checkParallel(t, c, h, stepParallel(c, h))
		checkSteps(t, l, small(9), c, h)
	}
}

// Promise 16.9 and rule 3 of DOC.md: what is given stays as it was, its spare room too, and is not kept; lists are new memory.
func TestLadderMemory(t *testing.T) {
	flows := []api.Flow{pay(50, 4), pay(700, 8), f(10, 1, 2), pay(70, 77), f(71, 78, 78)}
	days, factors := []int{365, 730, 1, 2}, []float64{0.5, 0.25, 3, 4}
	for _, kind := range kinds() {
		l := slices.Clone(flows)[:3]
		c := api.Curve{Kind: kind, Days: slices.Clone(days)[:2], Factors: slices.Clone(factors)[:2]}
		ladder, delta, gamma := stepLadder(l, 1, c, 0.01), stepDelta(l, 1, c, 0.01), stepGamma(l, 1, c, 0.01)
		for range 2 {
			checkLadder(t, l, 1, c, 0.01, ladder)
			checkDelta(t, l, 1, c, 0.01, delta)
			checkGamma(t, l, 1, c, 0.01, gamma)
		}
		first, _ := risk.Ladder(l, 1, c, 0.01)
		second, _ := risk.Ladder(l, 1, c, 0.01)
		clear(first[:cap(first)])
		if !slices.Equal(l[:5], flows) || !slices.Equal(c.Days[:4], days) || !slices.Equal(c.Factors[:4], factors) {
			t.Errorf("kind %d: what was given is %v, %v", kind, l[:5], c)
		}
		clear(l[:5])
		clear(c.Days[:4])
		clear(c.Factors[:4])
		if !value(second...).is(ladder) {
			t.Errorf("kind %d: the ladder is %x, it was %x", kind, second, ladder.l)
		}
	}
}

// What flows are worth more, those who give them lose: the ladder turns with the flows.
func TestLadderTurned(t *testing.T) {
	state := uint64(1620)
	for i := range 500 {
		c := someCurve(&state, 1+i%4)
		l := someFlows(&state, 10, c)
		h := someBump(&state, c)
		want := list(risk.Ladder(l, 1, c, h))
		got := list(risk.Ladder(flow.Give(l), 1, c, h))
		if got.e != want.e || !slices.EqualFunc(got.l, want.l, func(x, y float64) bool { return x == -y }) {
			t.Errorf("Ladder(%v, 1, %v, %x) is %x, %v, given %x, %v", l, c, h, want.l, want.e, got.l, got.e)
		}
	}
}
