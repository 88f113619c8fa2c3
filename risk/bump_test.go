package risk_test

import (
	"math"
	"slices"
	"testing"

	"tenor/api"
	"tenor/curve"
	"tenor/fn"
	"tenor/risk"
)

// checkBump holds one answer of Bump.
func checkBump(t *testing.T, c api.Curve, i int, h float64, want bent) {
	t.Helper()
	if got := told(risk.Bump(c, i, h)); !got.is(want) {
		t.Errorf("Bump(%v, %d, %x) is %v, not %v", c, i, h, got, want)
	}
}

// checkParallel holds one answer of Parallel.
func checkParallel(t *testing.T, c api.Curve, h float64, want bent) {
	t.Helper()
	if got := told(risk.Parallel(c, h)); !got.is(want) {
		t.Errorf("Parallel(%v, %x) is %v, not %v", c, h, got, want)
	}
}

// given is the chapter's curve.
func given() api.Curve {
	return api.Curve{Base: 0, Kind: api.ILinear, Days: []int{365, 730}, Factors: []float64{0.5, 0.25}}
}

// with is the curve with these factors.
func with(c api.Curve, factors ...float64) api.Curve {
	c.Factors = factors
	return c
}

// years is a curve of one node that lies so many years, of 365 days, behind the base.
func years(n int, factor float64) api.Curve {
	return api.Curve{Base: 100, Kind: api.IFlat, Days: []int{100 + 365*n}, Factors: []float64{factor}}
}

// market is a curve of that kind from the day 45290 on.
func market(kind int) api.Curve {
	const b = 45290
	return api.Curve{Base: b, Kind: kind, Days: []int{b + 91, b + 400, b + 550, b + 900, b + 1300, b + 3000}, Factors: []float64{0.9871, 0.9502, 0.9411, 0.8850, 0.8351, 0.7003}}
}

// full is a curve of as many nodes as may be.
func full(kind int) api.Curve {
	c := api.Curve{Base: 17, Kind: kind}
	for i := range api.MaxNodes - 1 {
		c.Days, c.Factors = append(c.Days, 20+7*i), append(c.Factors, 1/(1+float64(i)/90))
	}
	return c
}

// The chapter's examples.
func TestExamples(t *testing.T) {
	c := given()
	checkBump(t, c, 0, 0, told(c, api.OK))
	checkBump(t, c, 2, 0.1, refused(api.ErrArg))
	checkBump(t, c, 0, nan, refused(api.ErrValue))
	checkBump(t, c, 0, 1e308, refused(api.ErrValue))
	checkBump(t, c, 1, 0.5, told(with(c, 0.5, 0.25*fn.Exp(-1)), api.OK))
	got := list(risk.Ladder([]api.Flow{pay(365, 1)}, 1, c, 0.01))
	if got.e != api.OK || len(got.l) != 2 || !(got.l[0] < 0) || math.Float64bits(got.l[1]) != 0 {
		t.Errorf("the ladder is %v", got)
	}
}

// Promise 16.1: bits, reckoned elsewhere.
func TestBumpKnown(t *testing.T) {
	for _, x := range []struct {
		h    float64
		want []float64
	}{
		{0.0001, []float64{0x1.f961f2110ca96p-1, 0x1.e672f7677f1efp-1, 0x1.e1c545f935a28p-1, 0x1.c5021f00892f5p-1, 0x1.ab6b3fbfc18dap-1, 0x1.66424f19e61a3p-1}},
		{-0.01, []float64{0x1.faa823f0d8052p-1, 0x1.ebdcfe3783bf2p-1, 0x1.e928a91a3901bp-1, 0x1.d06e846e0a903p-1, 0x1.bb12ff20173e3p-1, 0x1.8544cbd76f876p-1}},
		{0.25, []float64{0x1.dadb2d175bf05p-1, 0x1.71e9dc0bd75ebp-1, 0x1.4a995db5ad5aap-1, 0x1.e93f06334433cp-2, 0x1.5f065d31f4b56p-2, 0x1.6f802cdfcb1c4p-4}},
		{-3.5, []float64{0x1.2e5e899d4fcc5p+1, 0x1.601f0150ee66dp+5, 0x1.6f62e529966f6p+7, 0x1.35a17c5066db2p+12, 0x1.a6f0103597e27p+17, 0x1.fbd71e7a7da3fp+40}},
		{1e-20, []float64{0x1.f9652bd3c3611p-1, 0x1.e6809d495182bp-1, 0x1.e1d7dbf487fccp-1, 0x1.c51eb851eb852p-1, 0x1.ab923a29c779ap-1, 0x1.668db8bac710dp-1}},
		{60, []float64{0x1.51d3253ef661ap-22, 0x1.0ba47b253c992p-95, 0x1.644ea58ef2a6bp-131, 0x1.4e0dae0a52333p-214, 0x1.5ad35ff892da3p-309, 0x1.0392baea1c9e2p-712}},
		{-80, []float64{0x1.b05e4db538683p+28, 0x1.53f1d3eaf5d26p+126, 0x1.c5ef6bb048a2ap+173, 0x1.542eead56c21ap+284, 0x1.c09a27eea057p+410, 0x1.13cafe707c339p+948}},
	} {
		for _, kind := range kinds() {
			c := market(kind)
			checkParallel(t, c, x.h, told(with(c, x.want...), api.OK))
			for i := range c.Days {
				factors := slices.Clone(c.Factors)
				factors[i] = x.want[i]
				checkBump(t, c, i, x.h, told(with(c, factors...), api.OK))
			}
		}
	}
}

// Promise 16.1: each step, of all sorts of curves and bumps.
func TestBumpSteps(t *testing.T) {
	state := uint64(161)
	seen := map[api.Errno]int{}
	for i := range 8000 {
		c := someCurve(&state, 1+i%4)
		h := someBump(&state, c)
		node := below(&state, len(c.Days)+2) - 1
		want := stepBump(c, node, h)
		checkBump(t, c, node, h, want)
		seen[want.e]++
		checkParallel(t, c, h, stepParallel(c, h))
	}
	if seen[api.OK] < 4000 || seen[api.ErrValue] < 500 || seen[api.ErrArg] < 1000 {
		t.Errorf("only %v", seen)
	}
	for _, kind := range kinds() {
		c := full(kind)
		checkParallel(t, c, -0.03, stepParallel(c, -0.03))
		for _, node := range []int{0, 1, 128, 253, 254} {
			checkBump(t, c, node, 0.02, stepBump(c, node, 0.02))
		}
		checkBump(t, c, 255, 0.02, refused(api.ErrArg))
	}
}

// Promise 16.1: by hand: at the ends of what a factor can be.
func TestBumpEdges(t *testing.T) {
	ok := func(c api.Curve, x float64) bent { return told(with(c, x), api.OK) }
	no := refused(api.ErrValue)
	for _, x := range []struct {
		c    api.Curve
		h    float64
		want bent
	}{
		// The exponential overflows below 710 already, and then whatever the factor is; where it does not, the product may.
		{years(1, 1e-300), -710, no},
		{years(1, least), -709.9, no},
		{years(1, least), -709.5, ok(years(1, 0), least*fn.Exp(709.5))},
		{years(1, 1), -709.5, ok(years(1, 0), fn.Exp(709.5))},
		{years(2, 1e-300), -355, no},
		{years(2, 1), -354.75, ok(years(2, 0), fn.Exp(709.5))},
		{years(1, 1e-300), -greatest, no},
		{years(5, 1e-300), -greatest, no},
		{years(1, 2), -709.5, no},
		{years(1, greatest), -least, ok(years(1, 0), greatest)},
		{years(1, greatest), -0x1p-52, no},
		// It is 0 above -746 already; where it is not, the product may be.
		{years(1, greatest), 746, no},
		{years(1, greatest), 745.5, no},
		{years(1, greatest), 745, ok(years(1, 0), greatest*fn.Exp(-745))},
		{years(5, greatest), 149.2, no},
		{years(5, greatest), 149, ok(years(5, 0), greatest*fn.Exp(-745))},
		{years(1, 0.5), 745, no},
		{years(1, 1), 745, ok(years(1, 0), least)},
		{years(1, greatest), greatest, no},
		{years(5, greatest), greatest, no},
		{years(1, least), 0.5, ok(years(1, 0), least)},
		{years(1, least), 1, no},
		{years(1, least), 1e-300, ok(years(1, 0), least)},
		{years(1, 0x1p-1022), 0.1, ok(years(1, 0), 0x1p-1022*fn.Exp(-0.1))},
	} {
		checkBump(t, x.c, 0, x.h, x.want)
		checkParallel(t, x.c, x.h, x.want)
	}
	// One node of several: Bump looks at that one alone, Parallel at all.
	c := api.Curve{Base: 0, Kind: api.ILog, Days: []int{365, 730, 1095}, Factors: []float64{1, 1, 1}}
	checkBump(t, c, 0, -400, told(with(c, fn.Exp(400), 1, 1), api.OK))
	checkBump(t, c, 1, -400, refused(api.ErrValue))
	checkBump(t, c, 1, -350, told(with(c, 1, fn.Exp(700), 1), api.OK))
	checkBump(t, c, 2, -350, refused(api.ErrValue))
	checkParallel(t, c, -350, refused(api.ErrValue))
	checkParallel(t, c, -230, told(with(c, fn.Exp(230), fn.Exp(460), fn.Exp(690)), api.OK))
	checkParallel(t, c, 230, told(with(c, fn.Exp(-230), fn.Exp(-460), fn.Exp(-690)), api.OK))
	checkParallel(t, c, 250, refused(api.ErrValue))
	// The time is counted from the base, and rounded once.
	c = api.Curve{Base: 1000, Kind: api.IFlat, Days: []int{1100}, Factors: []float64{0.75}}
	checkBump(t, c, 0, 2, told(with(c, 0.75*fn.Exp(-2*(100.0/365))), api.OK))
	c = api.Curve{Base: 0, Kind: api.IFlat, Days: []int{api.LastDay}, Factors: []float64{0.75}}
	checkBump(t, c, 0, 0.01, told(with(c, 0.75*fn.Exp(-(0.01*(109572.0/365)))), api.OK))
}

// badCurves is curves that may not be, each with its error.
func badCurves() map[string]bent {
	change := func(e api.Errno, change func(*api.Curve)) bent {
		c := api.Curve{Base: 40, Kind: api.ILinear, Days: []int{100, 60000}, Factors: []float64{0.5, 0.25}}
		change(&c)
		return bent{c, e}
	}
	return map[string]bent{
		"nothing": {api.Curve{}, api.ErrKind},
		"base":    change(api.ErrRange, func(c *api.Curve) { c.Base, c.Kind = -1, 0 }),
		"late":    change(api.ErrRange, func(c *api.Curve) { c.Base = api.LastDay + 1 }),
		"kind":    change(api.ErrKind, func(c *api.Curve) { c.Kind, c.Days = 5, nil }),
		"empty":   change(api.ErrNodes, func(c *api.Curve) { c.Days, c.Factors = nil, nil }),
		"order":   change(api.ErrNodes, func(c *api.Curve) { c.Base = 100 }),
		"days":    change(api.ErrNodes, func(c *api.Curve) { c.Days = []int{100} }),
		"lengths": change(api.ErrNodes, func(c *api.Curve) { c.Factors = []float64{0.5} }),
		"no day":  change(api.ErrNodes, func(c *api.Curve) { c.Days = []int{100, api.LastDay + 1} }),
		"nought":  change(api.ErrNodes, func(c *api.Curve) { c.Factors = []float64{0.5, 0} }),
		"below":   change(api.ErrNodes, func(c *api.Curve) { c.Factors = []float64{-0.5, 1} }),
		"nan":     change(api.ErrNodes, func(c *api.Curve) { c.Factors = []float64{nan, 1} }),
		"inf":     change(api.ErrNodes, func(c *api.Curve) { c.Factors = []float64{0.5, inf} }),
		"many": change(api.ErrNodes, func(c *api.Curve) {
			*c = full(api.ILinear)
			c.Days, c.Factors = append(c.Days, 60000), append(c.Factors, 0.1)
		}),
	}
}

// noNumbers is floats that are no numbers.
func noNumbers() []float64 {
	return []float64{nan, inf, -inf, math.Float64frombits(0xfff0000000000001), math.Float64frombits(0x7fffffffffffffff)}
}

// Promise 16.1: what is wrong: the curve ahead of the node, the node ahead of the bump, the bump ahead of what comes.
func TestBumpRefusals(t *testing.T) {
	bumps := append([]float64{0, 0.01, -1e308, 1e308}, noNumbers()...)
	nodes := []int{math.MinInt, -1, 2, 3, 254, 255, 256, 1 << 32, math.MaxInt}
	for _, x := range badCurves() {
		for _, h := range bumps {
			for _, i := range append([]int{0, 1}, nodes...) {
				checkBump(t, x.c, i, h, refused(x.e))
			}
			checkParallel(t, x.c, h, refused(x.e))
		}
	}
	for _, kind := range kinds() {
		c := given()
		c.Kind = kind
		for _, i := range nodes {
			for _, h := range bumps {
				checkBump(t, c, i, h, refused(api.ErrArg))
			}
		}
		for _, h := range append([]float64{1e308, -1e308}, noNumbers()...) {
			checkBump(t, c, 0, h, refused(api.ErrValue))
			checkBump(t, c, 1, h, refused(api.ErrValue))
			checkParallel(t, c, h, refused(api.ErrValue))
		}
	}
}

// Promise 16.5 and W8 of DOC.md: a bump by 0 changes nothing.
func TestBumpNothing(t *testing.T) {
	state := uint64(165)
	for i := range 2000 {
		c := someCurve(&state, 1+i%4)
		for _, h := range []float64{0, minus} {
			checkParallel(t, c, h, told(c, api.OK))
			for node := range c.Days {
				checkBump(t, c, node, h, told(c, api.OK))
			}
		}
	}
}

// reach is the first and the last day whose factors may hang on the node i.
func reach(c api.Curve, i int) (int, int) {
	places := append([]int{c.Base}, c.Days...)
	from, to := i, i+2 // the nodes about it, counted with the base
	if c.Kind == api.ICubic {
		// Its neighbours' slopes hang on it too.
		from, to = i-1, i+3
	}
	first, end := c.Base, last(c)+1
	if from >= 0 {
		first = places[from] + 1
	}
	if to < len(places) {
		end = places[to]
	}
	return first, end - 1
}

// W8 of DOC.md: a bump of one node changes no factor at days at which the curve does not hang on it, nor at any other node.
func TestBumpReach(t *testing.T) {
	state := uint64(168)
	moved := 0
	for i := range 600 {
		c := someCurve(&state, 1+i%4)
		h := someBump(&state, c)
		for node := range c.Days {
			b, e := risk.Bump(c, node, h)
			if e != api.OK {
				continue
			}
			first, end := reach(c, node)
			for range 60 {
				n := inside(&state, c)
				x, _ := curve.Factor(c, n)
				y, e := curve.Factor(b, n)
				same := math.Float64bits(x) == math.Float64bits(y)
				other := slices.Contains(c.Days, n) && n != c.Days[node]
				if e != api.OK || !same && (n < first || n > end || n == c.Base || other) {
					t.Errorf("Bump(%v, %d, %x): the factor of %d is %x, not %x (%v)", c, node, h, n, y, x, e)
				}
				if !same {
					moved++
				}
			}
		}
	}
	if moved < 10000 {
		t.Errorf("only %d factors moved", moved)
	}
}

// Promise 16.8: a bump up raises no factor, a bump down lowers none.
func TestBumpWay(t *testing.T) {
	state := uint64(1680)
	held := 0
	for i := range 3000 {
		c := someCurve(&state, api.IFlat+i%2)
		h := math.Abs(someBump(&state, c))
		for _, way := range []float64{1, -1} {
			b, e := risk.Parallel(c, way*h)
			if e != api.OK || !tells(c, way*h) {
				continue
			}
			for range 20 {
				n := inside(&state, c)
				x, _ := curve.Factor(c, n)
				y, _ := curve.Factor(b, n)
				if way > 0 && y > x || way < 0 && y < x {
					t.Errorf("Parallel(%v, %x): the factor of %d is %x, it was %x", c, way*h, n, y, x)
				}
				if x != y {
					held++
				}
			}
		}
	}
	if held < 20000 {
		t.Errorf("only %d factors moved", held)
	}
}

// tells says whether at all nodes Exp's steps tell at most 1 of a bump from 0 on, at least 1 of one below.
func tells(c api.Curve, h float64) bool {
	for _, n := range c.Days {
		x := fn.Exp(-(h * (float64(n-c.Base) / 365)))
		if h > 0 && x > 1 || h < 0 && x < 1 {
			return false
		}
	}
	return true
}

// Promise 16.9 and rule 3 of DOC.md: what is given stays as it was, its spare room too; what is told is new memory.
func TestBumpMemory(t *testing.T) {
	days, factors := []int{365, 730, 1, 2}, []float64{0.5, 0.25, 3, 4}
	for _, kind := range kinds() {
		calls := []func(c api.Curve) (api.Curve, api.Errno){
			func(c api.Curve) (api.Curve, api.Errno) { return risk.Bump(c, 0, 0) },
			func(c api.Curve) (api.Curve, api.Errno) { return risk.Bump(c, 1, 0.5) },
			func(c api.Curve) (api.Curve, api.Errno) { return risk.Parallel(c, 0) },
			func(c api.Curve) (api.Curve, api.Errno) { return risk.Parallel(c, -0.5) },
			func(c api.Curve) (api.Curve, api.Errno) { return risk.Parallel(c, 450) },
		}
		for n, call := range calls {
			c := api.Curve{Kind: kind, Days: slices.Clone(days)[:2], Factors: slices.Clone(factors)[:2]}
			a, e := call(c)
			b, _ := call(c)
			want := bent{api.Curve{Base: a.Base, Kind: a.Kind, Days: slices.Clone(a.Days), Factors: slices.Clone(a.Factors)}, e}
			clear(a.Days[:cap(a.Days)])
			clear(a.Factors[:cap(a.Factors)])
			if !slices.Equal(c.Days[:4], days) || !slices.Equal(c.Factors[:4], factors) {
				t.Errorf("kind %d, call %d: what was given is %v", kind, n, c)
			}
			clear(c.Days[:4])
			clear(c.Factors[:4])
			if !told(b, e).is(want) {
				t.Errorf("kind %d, call %d: the answer is %v, it was %v", kind, n, b, want)
			}
		}
	}
}
