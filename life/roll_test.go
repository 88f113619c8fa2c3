package life_test

import (
	"slices"
	"testing"

	"tenor/api"
	"tenor/curve"
	"tenor/life"
)

// example is the chapter's curve.
func example() api.Curve {
	return api.Curve{Base: 0, Kind: api.ILinear, Days: []int{100, 200}, Factors: []float64{0.5, 0.25}}
}

// The chapter's examples.
func TestRollExamples(t *testing.T) {
	checkRoll(t, example(), 100, api.Curve{Base: 100, Kind: api.ILinear, Days: []int{200}, Factors: []float64{0.5}}, api.OK)
	refusedRoll(t, example(), 200, api.ErrRange)
	checkRoll(t, example(), 50, api.Curve{Base: 50, Kind: api.ILinear, Days: []int{100, 200}, Factors: []float64{0.5 / 0.75, 0.25 / 0.75}}, api.OK)
}

// market and wild are curves from 2024-01-01 on: one that falls, and one that does not.
func market(kind int) api.Curve {
	const b = 45290
	return api.Curve{Base: b, Kind: kind, Days: []int{b + 91, b + 400, b + 550, b + 900, b + 1300, b + 3000}, Factors: []float64{0.9871, 0.9502, 0.9411, 0.8850, 0.8351, 0.7003}}
}

func wild(kind int) api.Curve {
	c := market(kind)
	c.Factors = []float64{1.25, 0.75, 0.75, 1.5, 3e-5, 0.04}
	return c
}

// Promise 24.4: bits, reckoned elsewhere.
func TestRollKnown(t *testing.T) {
	for _, x := range []struct {
		curve func(int) api.Curve
		n     int
		want  [4][]float64 // kind by kind
	}{
		{market, 1, [4][]float64{{0x1.f9652bd3c3611p-1, 0x1.e6809d495182bp-1, 0x1.e1d7dbf487fccp-1, 0x1.c51eb851eb852p-1, 0x1.ab923a29c779ap-1, 0x1.668db8bac710dp-1}, {0x1.f97783bff34e1p-1, 0x1.e69245aa39c05p-1, 0x1.e1e9590ada0a4p-1, 0x1.c52f2a85eba51p-1, 0x1.aba1befa3ba57p-1, 0x1.669abc42cdfdbp-1}, {0x1.f977881db52bep-1, 0x1.e69249de32d8cp-1, 0x1.e1e95d34852dbp-1, 0x1.c52f2e7010369p-1, 0x1.aba1c2abdeefp-1, 0x1.669abf5bccba7p-1}, {0x1.f977a1f7fb23fp-1, 0x1.e69262c110edp-1, 0x1.e1e975da5fd67p-1, 0x1.c52f459dc7b8ep-1, 0x1.aba1d88b05187p-1, 0x1.669ad1b32580dp-1}}},
		{market, 91, [4][]float64{{0x1.ecdc3c7ab8e9ep-1, 0x1.e823e4b7834e9p-1, 0x1.cb0aa8baefaffp-1, 0x1.b128b0fa3772bp-1, 0x1.6b3d4889f8ca5p-1}, {0x1.ecdc3c7ab8e9ep-1, 0x1.e823e4b7834e9p-1, 0x1.cb0aa8baefaffp-1, 0x1.b128b0fa3772bp-1, 0x1.6b3d4889f8ca5p-1}, {0x1.ecdc3c7ab8e9ep-1, 0x1.e823e4b7834e9p-1, 0x1.cb0aa8baefaffp-1, 0x1.b128b0fa3772bp-1, 0x1.6b3d4889f8ca5p-1}, {0x1.ecdc3c7ab8e9ep-1, 0x1.e823e4b7834e9p-1, 0x1.cb0aa8baefaffp-1, 0x1.b128b0fa3772bp-1, 0x1.6b3d4889f8ca5p-1}}},
		{market, 399, [4][]float64{{0x1.ecdc3c7ab8e9ep-1, 0x1.e823e4b7834e9p-1, 0x1.cb0aa8baefaffp-1, 0x1.b128b0fa3772bp-1, 0x1.6b3d4889f8ca5p-1}, {0x1.ffef8789c435cp-1, 0x1.fb086b6ee1201p-1, 0x1.dccedfedb254p-1, 0x1.c1ec75a367641p-1, 0x1.794c48a7681d3p-1}, {0x1.fff4df4755f87p-1, 0x1.fb0db6132ac49p-1, 0x1.dcd3d9d18e252p-1, 0x1.c1f127b37cabdp-1, 0x1.795038aeb38f6p-1}, {0x1.ffefd715a1d78p-1, 0x1.fb08ba37b8c82p-1, 0x1.dccf2a044093bp-1, 0x1.c1ecbb8c8bbb5p-1, 0x1.794c8347a1a83p-1}}},
		{market, 725, [4][]float64{{0x1.e17aa79eb992dp-1, 0x1.c654d10593926p-1, 0x1.7cfe80fe2d6d8p-1}, {0x1.f0454f46f32c3p-1, 0x1.d449f6c6894d3p-1, 0x1.88b2e1bbabf14p-1}, {0x1.ef07d34caa1b4p-1, 0x1.d31e617a2ea9p-1, 0x1.87b7a8190e542p-1}, {0x1.f0814deacb8fdp-1, 0x1.d482936e64456p-1, 0x1.88e25b0429d7dp-1}}},
		{market, 2999, [4][]float64{{0x1.ad5aa5992edf2p-1}, {0x1.fff1291a4412bp-1}, {0x1.fff129999e7fp-1}, {0x1.fff26d779b119p-1}}},
		{wild, 50, [4][]float64{{0x1.4p+0, 0x1.8p-1, 0x1.8p-1, 0x1.8p+0, 0x1.f75104d551d69p-16, 0x1.47ae147ae147bp-5}, {0x1.195a47babe744p+0, 0x1.519f89467e252p-1, 0x1.519f89467e252p-1, 0x1.519f89467e252p+0, 0x1.ba878b0d2dfbcp-16, 0x1.201ae931e9efep-5}, {0x1.112f5c0b127eep+0, 0x1.47d26e73afcb7p-1, 0x1.47d26e73afcb7p-1, 0x1.47d26e73afcb7p+0, 0x1.adaecf31ce6a5p-16, 0x1.17bdcee46d0d3p-5}, {0x1.1b13669070f89p+0, 0x1.53b0e17a212a5p-1, 0x1.53b0e17a212a5p-1, 0x1.53b0e17a212a5p+0, 0x1.bd3d5d9ac0ba8p-16, 0x1.21de9e4615797p-5}}},
		{wild, 400, [4][]float64{{0x1p+0, 0x1p+1, 0x1.4f8b588e368f1p-15, 0x1.b4e81b4e81b4fp-5}, {0x1p+0, 0x1p+1, 0x1.4f8b588e368f1p-15, 0x1.b4e81b4e81b4fp-5}, {0x1p+0, 0x1p+1, 0x1.4f8b588e368f1p-15, 0x1.b4e81b4e81b4fp-5}, {0x1p+0, 0x1p+1, 0x1.4f8b588e368f1p-15, 0x1.b4e81b4e81b4fp-5}}},
		{wild, 725, [4][]float64{{0x1p+1, 0x1.4f8b588e368f1p-15, 0x1.b4e81b4e81b4fp-5}, {0x1.5555555555555p+0, 0x1.bf647612f3696p-16, 0x1.23456789abcdfp-5}, {0x1.5555555555555p+0, 0x1.bf647612f3696p-16, 0x1.23456789abcdfp-5}, {0x1.6a09e667f3bcdp+0, 0x1.da88051ea83f6p-16, 0x1.34f08dfff5894p-5}}},
		{wild, 1299, [4][]float64{{0x1.4f8b588e368f1p-16, 0x1.b4e81b4e81b4fp-6}, {0x1.041193300bf27p-7, 0x1.52a18cfbe4e3ap+3}, {0x1.087951d7ef51bp-1, 0x1.585df7e67f9dp+9}, {0x1.f25618b44db5ep-1, 0x1.44700d6ab7ed1p+10}}},
		{wild, 2999, [4][]float64{{0x1.4d55555555555p+10}, {0x1.00268b594de65p+0}, {0x1.0026912735f72p+0}, {0x1.0115f9e8e5c6fp+0}}},
	} {
		for i, kind := range kinds() {
			c := x.curve(kind)
			behind := len(c.Days) - len(x.want[i])
			checkRoll(t, c, c.Base+x.n, api.Curve{Base: c.Base + x.n, Kind: kind, Days: c.Days[behind:], Factors: x.want[i]}, api.OK)
		}
	}
}

// Promise 24.4: all sorts of curves, on all of their days and beyond.
func TestRollSteps(t *testing.T) {
	state := uint64(244)
	seen := map[api.Errno]int{}
	for i := range 1500 {
		c := someCurve(&state, 1+i%4)
		days := []int{c.Base - 1, c.Base, c.Base + 1, last(c) - 1, last(c), last(c) + 1}
		for _, n := range c.Days {
			days = append(days, n-1, n, n+1)
		}
		for range 3 {
			days = append(days, c.Base+below(&state, last(c)-c.Base))
		}
		for _, n := range days {
			want, e := stepRoll(c, n)
			checkRoll(t, c, n, want, e)
			seen[e]++
		}
	}
	if seen[api.OK] < 15000 || seen[api.ErrRange] < 5000 || seen[api.ErrValue] < 1500 {
		t.Errorf("only %v", seen)
	}
}

// Promise 24.4: curve.Check's error ahead of the day's, whatever the day.
func TestRollOfNoCurve(t *testing.T) {
	for _, bad := range badCurves(50) {
		for _, n := range append(notDays(), 0, 50, 55, 60, 70, end) {
			refusedRoll(t, bad.c, n, bad.e)
		}
	}
}

// Promise 24.4: days that are ahead of the base, or not ahead of the last one; a refusal for the day is told ahead of one for a factor.
func TestRollDays(t *testing.T) {
	for _, kind := range kinds() {
		for _, c := range []api.Curve{
			{Base: 100, Kind: kind, Days: []int{300}, Factors: []float64{0.5}},
			{Base: 100, Kind: kind, Days: []int{200, 300}, Factors: []float64{0.5, 0.25}},
			{Base: 100, Kind: kind, Days: []int{200, 300}, Factors: []float64{greatest, least}},
		} {
			for _, n := range append(notDays(), 0, 99, 300, 301, end) {
				refusedRoll(t, c, n, api.ErrRange)
			}
		}
		short := api.Curve{Base: end - 1, Kind: kind, Days: []int{end}, Factors: []float64{0.5}}
		checkRoll(t, short, end-1, short, api.OK)
		refusedRoll(t, short, end-2, api.ErrRange)
		refusedRoll(t, short, end, api.ErrRange)
		first := api.Curve{Base: 0, Kind: kind, Days: []int{1, end}, Factors: []float64{0.5, 0.75}}
		checkRoll(t, first, 1, api.Curve{Base: 1, Kind: kind, Days: []int{end}, Factors: []float64{1.5}}, api.OK)
	}
}

// Promise 24.4: quotients at the ends of the numbers; those of nodes that are not behind the day are not asked.
func TestRollEnds(t *testing.T) {
	for _, kind := range kinds() {
		for _, x := range []struct{ then, factor, want float64 }{
			{2, least, 0}, // half of the least number is as near to 0
			{2, 3 * least, 2 * least},
			{2 - 0x1p-52, least, least},
			{greatest, least, 0},
			{greatest, greatest, 1},
			{greatest, 0x1p-52, 0},
			{greatest, 0x1p-51, least}, // just above half of it
			{0x1p-1, 0x1p1023, inf},
			{0x1p-1, greatest, inf},
			{1 - 0x1p-53, greatest, inf},
			{1 - 0x1p-53, greatest / 2, 0x1p1023},
			{1, greatest, greatest},
			{1 + 0x1p-52, greatest, 0x1.ffffffffffffdp+1023},
			{least, 0x1p-50, inf},
			{least, 0x1p-51, 0x1p1023},
			{least, least, 1},
			{3, 1, 0x1.5555555555555p-2},
		} {
			c := api.Curve{Base: 7, Kind: kind, Days: []int{10, 20, 30}, Factors: []float64{x.then, x.factor, x.then}}
			if x.want == 0 || x.want == inf {
				refusedRoll(t, c, 10, api.ErrValue)
				c.Factors[1], c.Factors[2] = x.then, x.factor
				refusedRoll(t, c, 10, api.ErrValue)
				refusedRoll(t, c, 20, api.ErrValue)
				c.Factors[1], c.Factors[2] = x.factor, x.factor
				checkRoll(t, c, 20, api.Curve{Base: 20, Kind: kind, Days: []int{30}, Factors: []float64{1}}, api.OK)
				continue
			}
			checkRoll(t, c, 10, api.Curve{Base: 10, Kind: kind, Days: []int{20, 30}, Factors: []float64{x.want, 1}}, api.OK)
		}
	}
}

// Promise 24.4: as many nodes as there may be.
func TestRollLong(t *testing.T) {
	for _, kind := range kinds() {
		c := api.Curve{Base: 7, Kind: kind}
		for i := range api.MaxNodes - 1 {
			c.Days, c.Factors = append(c.Days, 10+3*i), append(c.Factors, 1/float64(i+2))
		}
		for _, n := range []int{7, 8, 10, 11, 12, 13, 500, last(c) - 1, last(c)} {
			want, e := stepRoll(c, n)
			checkRoll(t, c, n, want, e)
		}
	}
}

// Promise 24.7: rolled to its base a curve is the same; a node's day is told as a quotient, and the base as 1; rolled on, the base is where it was rolled to.
func TestRolledOn(t *testing.T) {
	state := uint64(247)
	held := 0
	for i := range 1200 {
		c := someCurve(&state, 1+i%4)
		checkRoll(t, c, c.Base, c, api.OK)
		n := c.Base + below(&state, last(c)-c.Base)
		r, e := life.Roll(c, n)
		if e != api.OK {
			continue
		}
		held++
		then, _ := curve.Factor(c, n)
		for k, day := range c.Days {
			if day <= n {
				continue
			}
			if got := told(curve.Factor(r, day)); !got.is(value(c.Factors[k] / then)) {
				t.Errorf("%v rolled to %d tells %v on %d, not %x", c, n, got, day, c.Factors[k]/then)
			}
		}
		if got := told(curve.Factor(r, n)); !got.is(value(1)) || curve.Check(r) != api.OK || r.Base != n || last(r) != last(c) {
			t.Errorf("%v rolled to %d is %v and tells %v there", c, n, r, got)
		}
		checkRoll(t, r, n, r, api.OK)
		refusedRoll(t, r, n-1, api.ErrRange)
		m := n + below(&state, last(c)-n)
		if on, e := life.Roll(r, m); e == api.OK && (on.Base != m || !slices.Equal(on.Days, c.Days[len(c.Days)-len(on.Days):]) || on.Days[0] <= m) {
			t.Errorf("%v rolled to %d and %d is %v", c, n, m, on)
		}
	}
	if held < 800 {
		t.Errorf("only %d curves", held)
	}
}

// W12: a curve that falls falls still when it is rolled, from each day to each later one, but under ILog.
func TestRolledFalls(t *testing.T) {
	state := uint64(2412)
	held := 0
	for i := range 900 {
		c := someCurve(&state, 1+i%3)
		fall(&c)
		r, e := life.Roll(c, c.Base+below(&state, last(c)-c.Base))
		if e != api.OK {
			continue
		}
		held++
		if falls, e := curve.Falls(r); !falls || e != api.OK {
			t.Errorf("%v rolled is %v", c, r)
		}
		ahead := 1.0
		for day := r.Base; day <= last(r); day += 1 + (last(r)-r.Base)/60 {
			x, e := curve.Factor(r, day)
			if e != api.OK || x > ahead {
				t.Errorf("%v tells %x, %v on %d, behind %x", r, x, e, day, ahead)
			}
			ahead = x
		}
	}
	if held < 600 {
		t.Errorf("only %d curves", held)
	}
}

// Promise 24.8 and DOC.md, rule 3: the curve stays as it was, its spare room too; what is told is new memory.
func TestRollKeepsNothing(t *testing.T) {
	days, factors := []int{100, 200, 300, 7, 8}, []float64{0.5, 0.25, 0.125, 7, 8}
	for _, kind := range kinds() {
		for _, n := range []int{10, 60, 100, 150, 299, 300, 9} {
			c := api.Curve{Base: 10, Kind: kind, Days: days[:3], Factors: factors[:3]}
			want, wrong := stepRoll(c, n)
			r, e := life.Roll(c, n)
			r.Days, r.Factors = r.Days[:cap(r.Days)], r.Factors[:cap(r.Factors)]
			for i := range r.Days {
				r.Days[i] = -1
			}
			for i := range r.Factors {
				r.Factors[i] = -1
			}
			if e != wrong || !slices.Equal(days, []int{100, 200, 300, 7, 8}) || !slices.Equal(factors, []float64{0.5, 0.25, 0.125, 7, 8}) {
				t.Fatalf("Roll to %d: %v, the lists are %v and %v", n, e, days, factors)
			}
			checkRoll(t, c, n, want, wrong)
		}
	}
}

// Promise 24.8: whatever it is given, Roll ends, and tells a curve or an error, the same each time.
func TestRollEndsAlways(t *testing.T) {
	state := uint64(248)
	ints := append(notDays(), 0, 1, 5, 100, 200, 300, end)
	some := func() int { return ints[below(&state, len(ints))] }
	seen := map[api.Errno]int{}
	for range 30000 {
		c := api.Curve{Base: below(&state, 90), Kind: 1 + below(&state, 4)}
		for i := range below(&state, 4) {
			c.Days, c.Factors = append(c.Days, 100*(i+1)), append(c.Factors, someFactor(&state, below(&state, 4)))
		}
		switch below(&state, 12) {
		case 0:
			c.Base = some()
		case 1:
			c.Kind = some()
		case 2:
			c.Days = append(c.Days, some())
		case 3:
			c.Factors = append(c.Factors, notNumbers()[below(&state, 3)])
		case 4:
			c.Days, c.Factors = append(c.Days, some()), append(c.Factors, minus)
		}
		n := below(&state, 310)
		if below(&state, 6) == 0 {
			n = some()
		}
		r, e := life.Roll(c, n)
		again, f := life.Roll(c, n)
		if e != f || !sameCurve(r, again) || e != api.OK && !sameCurve(r, api.Curve{}) || e == api.OK && curve.Check(r) != api.OK {
			t.Fatalf("Roll(%v, %d) is %v, %v and %v, %v", c, n, r, e, again, f)
		}
		seen[e]++
	}
	for _, e := range []api.Errno{api.OK, api.ErrRange, api.ErrKind, api.ErrNodes, api.ErrValue} {
		if seen[e] < 300 {
			t.Errorf("only %v", seen)
		}
	}
}
