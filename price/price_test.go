package price_test

import (
	"math"
	"slices"
	"testing"

	"tenor/api"
	"tenor/curve"
	"tenor/flow"
	"tenor/price"
)

// checkPresent holds one answer of Present.
func checkPresent(t *testing.T, l []api.Flow, cur int, c api.Curve, want answer) {
	t.Helper()
	if got := told(price.Present(l, cur, c)); !got.is(want) {
		t.Errorf("Present(%v, %d, %v) is %x, %v, not %x, %v", l, cur, c, got.x, got.e, want.x, want.e)
	}
}

// checkFlat holds one answer of Flat.
func checkFlat(t *testing.T, l []api.Flow, cur int, c api.Curve, want answer) {
	t.Helper()
	if got := told(price.Flat(l, cur, c)); !got.is(want) {
		t.Errorf("Flat(%v, %d, %v) is %x, %v, not %x, %v", l, cur, c, got.x, got.e, want.x, want.e)
	}
}

// checkRefused holds that Of, Present and Flat answer that error, and nothing beside it.
func checkRefused(t *testing.T, l []api.Flow, cur int, c api.Curve, want api.Errno) {
	t.Helper()
	if w, e := price.Of(l, cur, c); w != nil || e != want {
		t.Errorf("Of %d flows in %d on %v is %v, %v, not %v", len(l), cur, c, w, e, want)
	}
	if got := told(price.Present(l, cur, c)); !got.is(wrong(want)) {
		t.Errorf("Present of %d flows in %d on %v is %v, not %v", len(l), cur, c, got, want)
	}
	if got := told(price.Flat(l, cur, c)); !got.is(wrong(want)) {
		t.Errorf("Flat of %d flows in %d on %v is %v, not %v", len(l), cur, c, got, want)
	}
}

// checkSteps holds Of, Present and Flat against the chapter's steps.
func checkSteps(t *testing.T, l []api.Flow, cur int, c api.Curve) {
	t.Helper()
	sum, e := stepOf(l, cur, c)
	if e != api.OK {
		checkRefused(t, l, cur, c, e)
		return
	}
	w, e := price.Of(l, cur, c)
	if e != api.OK || !w.Same(worthOf(t, sum)) || w.Sign() != sum.Sign() || !value(w.Value()).is(value(near(sum))) {
		t.Errorf("Of(%v, %d, %v) is %v, %v, not %v", l, cur, c, w, e, sum)
	}
	checkPresent(t, l, cur, c, stepPresent(l, cur, c))
	checkFlat(t, l, cur, c, stepFlat(l, cur, c))
}

// given is the chapter's curve, and its flows.
func given() (api.Curve, []api.Flow) {
	c := api.Curve{Kind: api.ILinear, Days: []int{100, 200}, Factors: []float64{0.5, 0.25}}
	return c, []api.Flow{f(50, 4, 1), f(200, 8, 1), f(10, 1, 2)}
}

// The chapter's examples.
func TestExamples(t *testing.T) {
	c, l := given()
	checkPresent(t, l, 1, c, value(5))
	checkPresent(t, l, 2, c, value(0.95))
	checkPresent(t, l, 3, c, value(0))
	checkPresent(t, l, 9, c, wrong(api.ErrCur))
	checkFlat(t, l, 1, c, value(5))
	checkPresent(t, append(l, f(201, 1, 1)), 1, c, wrong(api.ErrRange))
	checkPresent(t, append(l, f(201, 1, 2)), 1, c, value(5))
}

// Promises 15.1 and 15.3: bits, reckoned elsewhere.
func TestPresentKnown(t *testing.T) {
	const b = 45290
	state := uint64(150)
	for _, x := range []struct {
		l    []api.Flow
		want [4][2]float64 // Present and Flat, kind by kind
	}{
		{
			[]api.Flow{f(b+755, -976.69, 2)},
			[4][2]float64{},
		},
		{
			[]api.Flow{f(b+48, -683.97, 1), f(b-31, -890.1, 2), f(b+503, 714.68, 1)},
			[4][2]float64{{-0x1.38635a426bb86p+2, -0x1.38635a426bb8p+2}, {-0x1.2c57cbbb13df2p+2, -0x1.2c57cbbb13ep+2}, {-0x1.136bf8da28e74p+2, -0x1.136bf8da28e8p+2}, {-0x1.2bdc280d380a1p+2, -0x1.2bdc280d381p+2}},
		},
		{
			[]api.Flow{f(b+881, -765.74, 1), f(b+2800, -288.52, 1), f(b+978, -311.32, 1), f(b+1354, 595.23, 1), f(b+1151, 849.68, 2), f(b+1622, -537.23, 1)},
			[4][2]float64{{-0x1.292a7496aad1dp+10, -0x1.292a7496aad1cp+10}, {-0x1.12e177866a60fp+10, -0x1.12e177866a60fp+10}, {-0x1.1258a19820a11p+10, -0x1.1258a19820a11p+10}, {-0x1.1290ea9edfe17p+10, -0x1.1290ea9edfe17p+10}},
		},
		{
			[]api.Flow{f(b+1619, -20.76, 1), f(b+2212, 598.08, 1), f(b+2233, -369.69, 2), f(b+2544, -98.82, 1), f(b+1908, 918.42, 1), f(b+701, -719.36, 1), f(b+2415, 876.13, 2), f(b+2845, -965.24, 2), f(b+1927, -696.62, 1), f(b+376, -209.25, 1), f(b+1819, 451.11, 2), f(b+1111, -197.08, 2)},
			[4][2]float64{{-0x1.2ab8477ff152p+8, -0x1.2ab8477ff151ep+8}, {-0x1.3ccf1ff7a7bd6p+8, -0x1.3ccf1ff7a7bd7p+8}, {-0x1.417a2a9df804ep+8, -0x1.417a2a9df804ep+8}, {-0x1.3e92de7db8c2ep+8, -0x1.3e92de7db8c2fp+8}},
		},
		{
			[]api.Flow{f(b+10, 1e+17, 1), f(b+2000, 3.5, 1), f(b+10, -1e+17, 1), f(b+1000, -0.001, 1)},
			[4][2]float64{{0x1.7602f2f9873ffp+1, -0x1.cffeb074a771dp-11}, {0x1.5d257fcfdd3bcp+1, -0x1.c97452b833b89p-11}, {0x1.5b3ad5b059925p+1, -0x1.c8b8f71de4e1p-11}, {0x1.5bda670770a7fp+1, -0x1.c94fb569d8bcp-11}},
		},
		{
			[]api.Flow{f(b+37, 1e+300, 1), f(b+700, -1e+300, 1), f(b+2999, 1e-300, 1), f(b+37, -1e+300, 1), f(b+700, 1e+300, 1)},
			[4][2]float64{{0x1.1e57653627bf6p-997, 0}, {0x1.e04bc4388b476p-998, 0}, {0x1.e04bc3c11032ep-998, 0}, {0x1.e04a93e8f89fap-998, 0}},
		},
	} {
		for i, kind := range kinds() {
			c := api.Curve{Base: b, Kind: kind, Days: []int{b + 91, b + 400, b + 550, b + 900, b + 1300, b + 3000}, Factors: []float64{0.9871, 0.9502, 0.9411, 0.8850, 0.8351, 0.7003}}
			checkPresent(t, x.l, 1, c, value(x.want[i][0]))
			checkPresent(t, mixed(&state, x.l), 1, c, value(x.want[i][0]))
			checkFlat(t, x.l, 1, c, value(x.want[i][1]))
		}
	}
}

// Promises 15.1 and 15.3: each step, of all sorts of flows and curves.
func TestSteps(t *testing.T) {
	state := uint64(151)
	seen := map[api.Errno]int{}
	for i := range 4000 {
		c := someCurve(&state, 1+i%4)
		l := someFlows(&state, []int{1, 3, 5, 30}[below(&state, 4)], c)
		cur := 1 + below(&state, 3)
		checkSteps(t, l, cur, c)
		seen[stepPresent(l, cur, c).e]++
	}
	if seen[api.OK] < 2000 || seen[api.ErrRange] < 100 || seen[api.ErrValue] < 50 {
		t.Errorf("only %v", seen)
	}
}

// Promise 15.1: which days count: from the base on, to the curve's last; those ahead are gone, those behind refused, in the currency alone.
func TestDays(t *testing.T) {
	for _, kind := range kinds() {
		c := api.Curve{Base: 1000, Kind: kind, Days: []int{1100, 1200}, Factors: []float64{0.5, 0.25}}
		for _, x := range []struct {
			day  int
			want float64
		}{{0, 0}, {999, 0}, {1000, 3}, {1100, 1.5}, {1200, 0.75}} {
			checkPresent(t, []api.Flow{pay(x.day, 3)}, 1, c, value(x.want))
			checkFlat(t, []api.Flow{pay(x.day, 3)}, 1, c, value(x.want))
			checkPresent(t, []api.Flow{f(x.day, 3, 2), pay(1100, 8), f(x.day, 5, 8)}, 1, c, value(4))
			checkFlat(t, []api.Flow{f(x.day, 3, 2), pay(1100, 8), f(x.day, 5, 8)}, 1, c, value(4))
		}
		for _, day := range []int{1201, 1202, api.LastDay} {
			for _, amount := range []float64{3, 0, minus, -greatest} {
				checkRefused(t, []api.Flow{pay(day, amount)}, 1, c, api.ErrRange)
				checkRefused(t, []api.Flow{pay(1000, 3), pay(day, amount), pay(999, 1)}, 1, c, api.ErrRange)
				checkRefused(t, []api.Flow{pay(1000, greatest), pay(1000, greatest), pay(day, amount)}, 1, c, api.ErrRange)
				checkPresent(t, []api.Flow{pay(1000, 3), f(day, amount, 2)}, 1, c, value(3))
				checkFlat(t, []api.Flow{f(day, amount, 2), pay(1000, 3)}, 1, c, value(3))
			}
		}
		for cur := 1; cur <= 8; cur++ {
			var l []api.Flow
			for other := 1; other <= 8; other++ {
				l = append(l, f(1100, math.Ldexp(1, other), other))
			}
			checkPresent(t, l, cur, c, value(math.Ldexp(0.5, cur)))
			checkFlat(t, l, cur, c, value(math.Ldexp(0.5, cur)))
		}
		checkPresent(t, nil, 8, c, value(0))
		checkFlat(t, []api.Flow{}, 8, c, value(0))
	}
	end := api.Curve{Base: 0, Kind: api.IFlat, Days: []int{api.LastDay}, Factors: []float64{0.5}}
	checkPresent(t, []api.Flow{pay(0, 1), pay(api.LastDay, 1)}, 1, end, value(1.5))
	checkFlat(t, []api.Flow{pay(0, 1), pay(api.LastDay, 1)}, 1, end, value(1.5))
}

// badFlows is lists that may not be, each with its error.
func badFlows() map[string]struct {
	l []api.Flow
	e api.Errno
} {
	type bad = struct {
		l []api.Flow
		e api.Errno
	}
	good := pay(50, 1)
	return map[string]bad{
		"many":         {slices.Repeat([]api.Flow{good}, api.MaxFlows+1), api.ErrMany},
		"many bad":     {slices.Repeat([]api.Flow{{Day: -1}}, api.MaxFlows+1), api.ErrMany},
		"day":          {[]api.Flow{good, pay(-1, 1)}, api.ErrRange},
		"late":         {[]api.Flow{good, f(api.LastDay+1, nan, 9)}, api.ErrRange},
		"other's day":  {[]api.Flow{good, f(-1, 1, 2)}, api.ErrRange},
		"nan":          {[]api.Flow{good, pay(50, nan)}, api.ErrValue},
		"inf":          {[]api.Flow{pay(50, inf), good}, api.ErrValue},
		"other's inf":  {[]api.Flow{good, f(50, -inf, 2)}, api.ErrValue},
		"gone nan":     {[]api.Flow{pay(0, nan), good}, api.ErrValue},
		"no currency":  {[]api.Flow{good, f(50, 1, 0)}, api.ErrCur},
		"currency 9":   {[]api.Flow{f(50, 1, 9), f(50, nan, 1)}, api.ErrCur},
		"first of two": {[]api.Flow{f(50, nan, 1), f(-1, 1, 9)}, api.ErrValue},
	}
}

// badCurves is curves that may not be, each with its error.
func badCurves() map[string]struct {
	c api.Curve
	e api.Errno
} {
	type bad = struct {
		c api.Curve
		e api.Errno
	}
	with := func(change func(*api.Curve)) api.Curve {
		c := api.Curve{Base: 40, Kind: api.ILinear, Days: []int{100, 60000}, Factors: []float64{0.5, 0.25}}
		change(&c)
		return c
	}
	return map[string]bad{
		"nothing": {api.Curve{}, api.ErrKind},
		"base":    {with(func(c *api.Curve) { c.Base, c.Kind = -1, 0 }), api.ErrRange},
		"late":    {with(func(c *api.Curve) { c.Base = api.LastDay + 1 }), api.ErrRange},
		"kind":    {with(func(c *api.Curve) { c.Kind, c.Days = 5, nil }), api.ErrKind},
		"empty":   {with(func(c *api.Curve) { c.Days, c.Factors = nil, nil }), api.ErrNodes},
		"order":   {with(func(c *api.Curve) { c.Base = 100 }), api.ErrNodes},
		"lengths": {with(func(c *api.Curve) { c.Factors = []float64{0.5} }), api.ErrNodes},
		"nought":  {with(func(c *api.Curve) { c.Factors = []float64{0.5, 0} }), api.ErrNodes},
		"below":   {with(func(c *api.Curve) { c.Factors = []float64{-0.5, 1} }), api.ErrNodes},
		"nan":     {with(func(c *api.Curve) { c.Factors = []float64{nan, 1} }), api.ErrNodes},
		"inf":     {with(func(c *api.Curve) { c.Factors = []float64{0.5, inf} }), api.ErrNodes},
	}
}

// Promises 15.1 and 15.3: what is wrong: the flows' error ahead of the currency's, that one ahead of the curve's, that one ahead of the days'.
func TestRefusals(t *testing.T) {
	c, l := given()
	curves := []api.Curve{c}
	for _, x := range badCurves() {
		curves = append(curves, x.c)
	}
	for _, x := range badFlows() {
		for _, d := range curves {
			checkRefused(t, x.l, 1, d, x.e)
			checkRefused(t, x.l, 8, d, x.e)
			for _, cur := range noCurs() {
				checkRefused(t, x.l, cur, d, x.e)
			}
		}
	}
	late := pay(api.LastDay, 1)
	for _, m := range [][]api.Flow{nil, {}, l, append(l, late)} {
		for _, d := range curves {
			for _, cur := range noCurs() {
				checkRefused(t, m, cur, d, api.ErrCur)
			}
		}
		for _, x := range badCurves() {
			for cur := 1; cur <= 8; cur++ {
				checkRefused(t, m, cur, x.c, x.e)
			}
		}
	}
	checkRefused(t, append(l, late), 1, c, api.ErrRange)
}

// node is a curve of one node on the day 1.
func node(factor float64) api.Curve {
	return api.Curve{Kind: api.IFlat, Days: []int{1}, Factors: []float64{factor}}
}

// Promise 15.3: Present by hand: one rounding, and what has no number.
func TestPresentHand(t *testing.T) {
	for _, x := range []struct {
		l      []api.Flow
		factor float64
		want   float64
	}{
		{nil, 0.5, 0},
		{[]api.Flow{pay(1, 0)}, 0.5, 0},
		{[]api.Flow{pay(1, minus)}, 0.5, 0},
		{[]api.Flow{pay(0, minus), pay(1, minus)}, 0.5, 0},
		{[]api.Flow{pay(1, 8), pay(0, -4)}, 0.5, 0},
		{[]api.Flow{pay(0, 1), pay(0, 0x1p-60), pay(0, -1)}, 0.5, 0x1p-60},
		// Products that are rounded by themselves would come to another sum.
		{[]api.Flow{pay(1, 1+0x1p-52), pay(0, -1-0x1p-51)}, 1 + 0x1p-52, 0x1p-104},
		{[]api.Flow{pay(1, 0.1), pay(0, -0.01)}, 0.1, 0x1.0a3d70a3d70a4p-60},
		// Halves of the last bit: to the even one, but for what lies on top.
		{[]api.Flow{pay(0, 1), pay(1, 1)}, 0x1p-53, 1},
		{[]api.Flow{pay(0, 1+0x1p-52), pay(1, 1)}, 0x1p-53, 1 + 0x1p-51},
		{[]api.Flow{pay(0, 1), pay(1, 1+0x1p-52)}, 0x1p-53, 1 + 0x1p-52},
		{[]api.Flow{pay(0, 1), pay(1, 1), pay(0, least)}, 0x1p-53, 1 + 0x1p-52},
		// Below the least number: a zero of the sum's sign.
		{[]api.Flow{pay(1, least)}, 0.5, 0},
		{[]api.Flow{pay(1, -least)}, 0.5, minus},
		{[]api.Flow{pay(1, -least)}, least, minus},
		{[]api.Flow{pay(1, least), pay(1, least)}, 0.5, least},
		{[]api.Flow{pay(1, 3*least)}, 0.5, 2 * least},
		// Too great on the way.
		{[]api.Flow{pay(0, greatest), pay(0, greatest), pay(0, -greatest)}, 0.5, greatest},
		{[]api.Flow{pay(1, greatest), pay(1, -greatest), pay(0, 7)}, greatest, 7},
		{[]api.Flow{pay(0, greatest), pay(0, 0x1p969)}, 0.5, greatest},
		{[]api.Flow{pay(0, greatest), pay(0, 0x1p970), pay(1, -least)}, least, greatest},
	} {
		checkPresent(t, x.l, 1, node(x.factor), value(x.want))
		checkPresent(t, slices.Concat(x.l, []api.Flow{f(1, greatest, 2), f(0, greatest, 2)}), 1, node(x.factor), value(x.want))
	}
	for _, l := range [][]api.Flow{
		{pay(0, greatest), pay(0, greatest)},
		{pay(0, -greatest), pay(0, -greatest)},
		{pay(0, greatest), pay(0, 0x1p970)},
		{pay(0, -greatest), pay(0, -0x1p970)},
		{pay(1, greatest), pay(1, -1)},
	} {
		checkPresent(t, l, 1, node(2), wrong(api.ErrValue))
	}
}

// Promise 15.3: Flat by hand: each step is rounded, in the order of the list.
func TestFlatHand(t *testing.T) {
	for _, x := range []struct {
		l      []api.Flow
		factor float64
		want   float64
	}{
		{nil, 0.5, 0},
		{[]api.Flow{pay(1, minus)}, 0.5, 0},
		{[]api.Flow{pay(1, -least)}, 0.5, 0},
		{[]api.Flow{pay(0, 1), pay(0, 0x1p-60), pay(0, -1)}, 0.5, 0},
		{[]api.Flow{pay(0, 1), pay(0, -1), pay(0, 0x1p-60)}, 0.5, 0x1p-60},
		{[]api.Flow{pay(0, 0x1p-60), pay(0, 1), pay(0, -1)}, 0.5, 0},
		{[]api.Flow{pay(0, 1), pay(1, 1), pay(1, 1)}, 0x1p-53, 1},
		{[]api.Flow{pay(1, 1), pay(1, 1), pay(0, 1)}, 0x1p-53, 1 + 0x1p-52},
		// A product that went into the sum without its own rounding would leave 2^-60.
		{[]api.Flow{pay(0, -1-0x1p-29), pay(1, 1+0x1p-30)}, 1 + 0x1p-30, 0},
		{[]api.Flow{pay(1, least), pay(1, least)}, 0.5, 0},
		{[]api.Flow{pay(1, 3*least)}, 0.5, 2 * least},
		{[]api.Flow{pay(0, greatest), pay(0, -greatest), pay(0, greatest)}, 0.5, greatest},
		{[]api.Flow{pay(0, greatest), pay(0, 0x1p969)}, 0.5, greatest},
	} {
		checkFlat(t, x.l, 1, node(x.factor), value(x.want))
	}
	for _, l := range [][]api.Flow{
		{pay(0, greatest), pay(0, greatest), pay(0, -greatest)},
		{pay(0, -greatest), pay(0, -greatest), pay(0, 1)},
		{pay(0, greatest), pay(0, 0x1p970)},
		{pay(1, greatest)},
		{pay(1, greatest), pay(1, -greatest)},
		{pay(1, -greatest), pay(0, greatest)},
	} {
		checkFlat(t, l, 1, node(2), wrong(api.ErrValue))
	}
}

// full is as many flows as may be, on a curve of as many nodes as may be.
func full(state *uint64, kind int) ([]api.Flow, api.Curve) {
	c := api.Curve{Base: 17, Kind: kind}
	for i := range api.MaxNodes - 1 {
		c.Days, c.Factors = append(c.Days, 20+7*i), append(c.Factors, 1/(1+float64(i)/90))
	}
	var l []api.Flow
	for range api.MaxFlows {
		l = append(l, f(below(state, last(c)+1), someAmount(state)/8192, 1+below(state, 2)))
	}
	return l, c
}

// Promises 15.1 and 15.3: as many flows, and as many nodes, as may be.
func TestFull(t *testing.T) {
	state := uint64(152)
	for _, kind := range kinds() {
		l, c := full(&state, kind)
		checkSteps(t, l, 1, c)
		checkSteps(t, l, 2, c)
		checkRefused(t, append(l, pay(20, 1)), 1, c, api.ErrMany)
	}
	one := slices.Repeat([]api.Flow{pay(0, greatest)}, api.MaxFlows)
	w, e := price.Of(one, 1, node(greatest))
	if e != api.OK || w.Sign() != 1 || w.Value() != inf {
		t.Errorf("%d times the greatest number is %v, %v", len(one), w, e)
	}
}

// Promise 15.6: Net changes nothing where no two flows share day and currency; where they do, it may, for its amounts are rounded.
func TestNetted(t *testing.T) {
	state := uint64(156)
	held := 0
	for i := range 1500 {
		c := someCurve(&state, 1+i%4)
		l := someFlows(&state, 20, c)
		used := map[[2]int]int{}
		l = slices.DeleteFunc(l, func(x api.Flow) bool {
			used[[2]int{x.Day, x.Cur}]++
			return used[[2]int{x.Day, x.Cur}] > 1
		})
		netted, e := flow.Net(l)
		if e != api.OK {
			t.Fatalf("Net(%v): %v", l, e)
		}
		want := told(price.Present(l, 1, c))
		checkPresent(t, netted, 1, c, want)
		if want.e == api.OK && len(l) > 2 {
			held++
		}
	}
	if held < 500 {
		t.Errorf("only %d lists", held)
	}
	l := []api.Flow{pay(0, 1), pay(0, 0x1p-54), pay(1, -1)}
	netted, _ := flow.Net(l)
	checkPresent(t, l, 1, node(1), value(0x1p-54))
	checkPresent(t, netted, 1, node(1), value(0))
}

// Promise 15.7: amounts above 0 are worth no less than nothing; greater factors make amounts from 0 on worth no less.
func TestOrder(t *testing.T) {
	state := uint64(157)
	held := 0
	for i := range 3000 {
		low := someCurve(&state, 1+i%4)
		high := low
		high.Factors = slices.Clone(low.Factors)
		for k, x := range high.Factors {
			switch below(&state, 3) {
			case 0:
				high.Factors[k] = math.Nextafter(x, greatest)
			case 1:
				high.Factors[k] = min(greatest, x*(1+unit(&state)/4))
			}
		}
		var l []api.Flow
		for range 1 + below(&state, 9) {
			l = append(l, pay(inside(&state, low), math.Abs(someAmount(&state))))
		}
		if !liesBelow(low, high, l) {
			continue
		}
		a, b := told(price.Present(l, 1, low)), told(price.Present(l, 1, high))
		if a.e == api.OK && (math.Signbit(a.x) || b.e == api.OK && a.x > b.x) || a.e != api.OK && b.e == api.OK {
			t.Errorf("%v is worth %v on %v, and %v on %v", l, a, low, b, high)
		}
		if a.e == api.OK && b.e == api.OK && a.x < b.x {
			held++
		}
	}
	if held < 500 {
		t.Errorf("only %d lists", held)
	}
}

// liesBelow tells whether the first curve's factors are at most the second's, on the days of the flows.
func liesBelow(low, high api.Curve, l []api.Flow) bool {
	for _, x := range l {
		a, _ := curve.Factor(low, x.Day)
		b, _ := curve.Factor(high, x.Day)
		if a > b {
			return false
		}
	}
	return true
}

// Promise 15.8: amounts scaled by a power of 2.
func TestScaled(t *testing.T) {
	state := uint64(158)
	fits := func(x float64) bool { return 0x1p-900 <= math.Abs(x) && math.Abs(x) <= 0x1p900 }
	held := 0
	for i := range 4000 {
		c := someCurve(&state, 1+i%4)
		var l []api.Flow
		far := below(&state, 600)
		for range 1 + below(&state, 9) {
			l = append(l, pay(inside(&state, c), math.Ldexp(2*unit(&state)-1, below(&state, 2*far+1)-far)))
		}
		switch below(&state, 5) {
		case 0:
			l = append(l, flow.Give(l)...)
		case 1:
			l = append(l, pay(c.Base, 0), pay(last(c), minus))
		}
		power := math.Ldexp(1, below(&state, 1201)-600)
		scaled, e := flow.Scale(power, l)
		if e != api.OK || slices.ContainsFunc(append(slices.Clone(scaled), l...), func(x api.Flow) bool { return x.Amount != 0 && !fits(x.Amount) }) {
			continue
		}
		a, b := told(price.Present(l, 1, c)), told(price.Present(scaled, 1, c))
		w, e := price.Of(l, 1, c)
		if a.e != api.OK || b.e != api.OK || e != api.OK || w.Sign() != 0 && (!fits(a.x) || !fits(b.x)) {
			continue
		}
		held++
		if !b.is(value(a.x * power)) {
			t.Errorf("%v on %v is worth %x; scaled by %x: %x", l, c, a.x, power, b.x)
		}
	}
	if held < 1500 {
		t.Errorf("only %d lists", held)
	}
}

// Promise 15.9: whatever is given, every call ends and none panics; beside an error there is nothing.
func TestAnything(t *testing.T) {
	ints := []int{math.MinInt, -1, 0, 1, 2, 3, 4, 5, 6, 7, 8, 9, 30, 31, 1000, 1200, 1201, 45656, api.LastDay - 1, api.LastDay, api.LastDay + 1, math.MaxInt}
	numbers := []float64{0, minus, 1, -1, 0.05, 100, least, greatest, -greatest, inf, -inf, nan}
	calendars := []api.Calendar{{}, {}, week(), {Weekend: 126}, closed(), odd(), tooMany()}
	state := uint64(159)
	any := func() int { return ints[below(&state, len(ints))] }
	small := func(n int) int {
		if below(&state, 12) == 0 {
			return any()
		}
		return below(&state, n)
	}
	number := func() float64 { return numbers[below(&state, len(numbers))] }
	some := func() float64 { return numbers[below(&state, len(numbers)-3)] }
	for range 6000 {
		c := api.Curve{Base: any(), Kind: small(5), Days: []int{any(), 60000}, Factors: []float64{0.9, number()}}
		if below(&state, 2) == 0 {
			c = someCurve(&state, 1+below(&state, 4))
		}
		var l []api.Flow
		for range below(&state, 4) {
			l = append(l, f(any(), some(), 1+below(&state, 8)))
		}
		if below(&state, 4) == 0 {
			l = append(l, f(any(), number(), small(9)))
		}
		checkSteps(t, l, small(9), c)
		s := api.Spec{Start: any(), End: any(), N: any(), Unit: small(5), Stub: small(5), Roll: small(3), Conv: small(5), Lag: small(31), Cal: calendars[below(&state, len(calendars))]}
		if below(&state, 2) == 0 {
			s.Start, s.End = 45000, 45000+below(&state, 2000)
		}
		g := api.Leg{Kind: small(3), Count: small(7), Cur: small(9), Notional: number(), Rate: number(), Spec: s}
		checkPar(t, g, c, stepPar(g, c))
	}
}

// DOC.md, rules 3 and 8: what is given stays as it was, its spare room too, and is not kept; a worth does not hang on it.
func TestMemory(t *testing.T) {
	flows := []api.Flow{pay(50, 4), pay(200, 8), f(10, 1, 2), pay(70, 77), f(71, 78, 78)}
	days, factors := []int{100, 200, 1, 2}, []float64{0.5, 0.25, 3, 4}
	rules := append(week().Rules, api.Rule{Kind: 77}, api.Rule{Kind: 78})
	for _, kind := range kinds() {
		l := slices.Clone(flows)[:3]
		c := api.Curve{Kind: kind, Days: slices.Clone(days)[:2], Factors: slices.Clone(factors)[:2]}
		g := leg(api.DOpen, api.Spec{Start: 10, End: 190, N: 1, Unit: api.UMonth, Stub: api.SShortFirst, Cal: api.Calendar{Weekend: 96, Rules: slices.Clone(rules)[:1]}})
		present, flat, par := stepPresent(l, 1, c), stepFlat(l, 1, c), stepPar(g, c)
		w, e := price.Of(l, 1, c)
		for range 2 {
			checkPresent(t, l, 1, c, present)
			checkFlat(t, l, 1, c, flat)
			checkPar(t, g, c, par)
		}
		if !slices.Equal(l[:5], flows) || !slices.Equal(c.Days[:4], days) || !slices.Equal(c.Factors[:4], factors) || !slices.Equal(g.Spec.Cal.Rules[:3], rules) {
			t.Errorf("kind %d: what was given is %v, %v, %v", kind, l[:5], c, g)
		}
		clear(l[:5])
		clear(c.Days)
		clear(c.Factors)
		if e != api.OK || w.Value() != present.x {
			t.Errorf("kind %d: the worth is %v, %v, not %v", kind, w.Value(), e, present.x)
		}
	}
}
