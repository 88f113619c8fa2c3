package book_test

import (
	"math"
	"slices"
	"testing"

	"tenor/api"
	"tenor/book"
)

// sameCurve holds two curves against each other to the bit.
func sameCurve(a, b api.Curve) bool {
	return a.Base == b.Base && a.Kind == b.Kind && slices.Equal(a.Days, b.Days) && allBits(a.Factors) == allBits(b.Factors)
}

// checkGet holds one answer of Get.
func checkGet(t *testing.T, b *book.Book, cur int, c api.Curve, has bool, x float64, want api.Errno) {
	t.Helper()
	if got, h, y, e := b.Get(cur); !sameCurve(got, c) || h != has || bits(y) != bits(x) || e != want {
		t.Errorf("Get(%d) is %v, %t, %x, %v, not %v, %t, %x, %v", cur, got, h, y, e, c, has, x, want)
	}
}

// checkFactor holds one answer of Factor.
func checkFactor(t *testing.T, b *book.Book, cur, n int, want float64, e api.Errno) {
	t.Helper()
	if x, f := b.Factor(cur, n); bits(x) != bits(want) || f != e {
		t.Errorf("Factor(%d, %d) is %x, %v, not %x, %v", cur, n, x, f, want, e)
	}
}

// Promise 20.1: a new book has nothing, and each exchange rate is 1; what there is none of is told as its zero value.
func TestNew(t *testing.T) {
	b := book.New()
	if l := b.List(); len(l) != 0 {
		t.Errorf("List is %v", l)
	}
	for cur := 1; cur <= 8; cur++ {
		checkGet(t, b, cur, api.Curve{}, false, 1, api.OK)
	}
	for _, cur := range noCurs() {
		checkGet(t, b, cur, api.Curve{}, false, 0, api.ErrCur)
	}
	checkSame(t, b, &shelf{})
	if c := book.New(); c == b {
		t.Error("two books are one")
	}
}

// Promises 20.1 and 20.3: a curve and an exchange rate of each currency, and no other's.
func TestMarkets(t *testing.T) {
	b := book.New()
	at := func(cur int) api.Curve {
		return api.Curve{Base: cur, Kind: 1 + cur%4, Days: []int{100 * cur, 1000 * cur}, Factors: []float64{1 / float64(cur), 0.5 / float64(cur)}}
	}
	for _, cur := range []int{5, 8, 1, 3, 2, 7, 6, 4} {
		if e := b.Curve(cur, at(cur)); e != api.OK {
			t.Errorf("Curve(%d) is %v", cur, e)
		}
		if e := b.Rate(cur, float64(cur)/10); e != api.OK {
			t.Errorf("Rate(%d) is %v", cur, e)
		}
	}
	for cur := 1; cur <= 8; cur++ {
		checkGet(t, b, cur, at(cur), true, float64(cur)/10, api.OK)
		checkFactor(t, b, cur, 1000*cur, 0.5/float64(cur), api.OK)
	}
	// In the place of the one that it had, with fewer nodes and more.
	many := api.Curve{Base: 9, Kind: api.ILinear}
	for i := range 255 {
		many.Days, many.Factors = append(many.Days, 10+i), append(many.Factors, 1+float64(i))
	}
	for _, c := range []api.Curve{halving(), many, even()} {
		if e := b.Curve(3, c); e != api.OK {
			t.Errorf("Curve is %v", e)
		}
		checkGet(t, b, 3, c, true, 0.3, api.OK)
	}
	if e := b.Clear(3); e != api.OK {
		t.Errorf("Clear is %v", e)
	}
	checkGet(t, b, 3, api.Curve{}, false, 0.3, api.OK)
	if e := b.Clear(3); e != api.ErrCurve {
		t.Errorf("Clear is %v", e)
	}
	for _, cur := range []int{1, 2, 4, 5, 6, 7, 8} {
		checkGet(t, b, cur, at(cur), true, float64(cur)/10, api.OK)
	}
	if e := b.Curve(3, at(2)); e != api.OK {
		t.Errorf("Curve is %v", e)
	}
	checkGet(t, b, 3, at(2), true, 0.3, api.OK)
}

// badCurves is curves that may not be, each with its error.
func badCurves() map[string]struct {
	c api.Curve
	e api.Errno
} {
	type bad = struct {
		c api.Curve
		e api.Errno
	}
	long := api.Curve{Kind: api.ILinear}
	for i := range 256 {
		long.Days, long.Factors = append(long.Days, 1+i), append(long.Factors, 1)
	}
	return map[string]bad{
		"base":    {api.Curve{Base: -1, Kind: 9}, api.ErrRange},
		"late":    {api.Curve{Base: api.LastDay + 1, Kind: api.IFlat, Days: []int{api.LastDay + 2}, Factors: []float64{1}}, api.ErrRange},
		"zero":    {api.Curve{}, api.ErrKind},
		"kind":    {api.Curve{Kind: 5, Days: []int{1}, Factors: []float64{1}}, api.ErrKind},
		"none":    {api.Curve{Kind: api.IFlat}, api.ErrNodes},
		"long":    {long, api.ErrNodes},
		"length":  {api.Curve{Kind: api.IFlat, Days: []int{1, 2}, Factors: []float64{1}}, api.ErrNodes},
		"order":   {api.Curve{Kind: api.IFlat, Days: []int{2, 2}, Factors: []float64{1, 1}}, api.ErrNodes},
		"at base": {api.Curve{Base: 2, Kind: api.IFlat, Days: []int{2}, Factors: []float64{1}}, api.ErrNodes},
		"nought":  {api.Curve{Kind: api.IFlat, Days: []int{1}, Factors: []float64{0}}, api.ErrNodes},
		"nan":     {api.Curve{Kind: api.IFlat, Days: []int{1}, Factors: []float64{nan}}, api.ErrNodes},
	}
}

// Promises 20.1 and 20.9: what is refused, in its order, and changes nothing.
func TestMarketRefusals(t *testing.T) {
	b := made(t, map[int]api.Curve{1: halving()}, nil)
	b.Rate(1, 0.25)
	want := tells(b)
	for name, x := range badCurves() {
		for cur := 1; cur <= 8; cur++ {
			if e := b.Curve(cur, x.c); e != x.e {
				t.Errorf("%s: Curve(%d) is %v, not %v", name, cur, e, x.e)
			}
		}
		for _, cur := range noCurs() {
			if e := b.Curve(cur, x.c); e != api.ErrCur {
				t.Errorf("%s: Curve(%d) is %v", name, cur, e)
			}
		}
	}
	for _, cur := range noCurs() {
		if e := b.Curve(cur, halving()); e != api.ErrCur {
			t.Errorf("Curve(%d) is %v", cur, e)
		}
		if e := b.Clear(cur); e != api.ErrCur {
			t.Errorf("Clear(%d) is %v", cur, e)
		}
		for _, x := range []float64{1, 0, nan, inf} {
			if e := b.Rate(cur, x); e != api.ErrCur {
				t.Errorf("Rate(%d, %x) is %v", cur, x, e)
			}
		}
		checkFactor(t, b, cur, from, 0, api.ErrCur)
		checkFactor(t, b, cur, -1, 0, api.ErrCur)
	}
	for cur := 1; cur <= 8; cur++ {
		for _, x := range []float64{0, minus, -1, -least, -greatest, nan, inf, -inf} {
			if e := b.Rate(cur, x); e != api.ErrValue {
				t.Errorf("Rate(%d, %x) is %v", cur, x, e)
			}
		}
		if cur > 1 {
			if e := b.Clear(cur); e != api.ErrCurve {
				t.Errorf("Clear(%d) is %v", cur, e)
			}
			checkFactor(t, b, cur, from, 0, api.ErrCurve)
			checkFactor(t, b, cur, -1, 0, api.ErrCurve)
		}
	}
	if !slices.Equal(tells(b), want) {
		t.Error("what was refused has changed the book")
	}
}

// Promise 20.1: the ends of what an exchange rate may be.
func TestRate(t *testing.T) {
	b := book.New()
	for _, x := range []float64{least, 0x1p-1022, 0.1, 1, greatest} {
		for cur := 1; cur <= 8; cur++ {
			if e := b.Rate(cur, x); e != api.OK {
				t.Errorf("Rate(%d, %x) is %v", cur, x, e)
			}
			checkGet(t, b, cur, api.Curve{}, false, x, api.OK)
		}
	}
}

// Promise 20.3: Factor is curve.Factor of the currency's curve.
func TestFactor(t *testing.T) {
	b := made(t, map[int]api.Curve{1: halving(), 8: {Base: 0, Kind: api.ILinear, Days: []int{100, 200}, Factors: []float64{0.5, 0.25}}}, nil)
	for _, x := range []struct {
		cur, n int
		want   float64
		e      api.Errno
	}{
		{1, from, 1, api.OK}, {1, to, 0.5, api.OK}, {1, (from + to) / 2, 0.75, api.OK}, {1, from - 1, 0, api.ErrRange}, {1, to + 1, 0, api.ErrRange},
		{8, 0, 1, api.OK}, {8, 50, 0.75, api.OK}, {8, 200, 0.25, api.OK}, {8, 201, 0, api.ErrRange}, {8, -1, 0, api.ErrRange},
		{8, math.MinInt, 0, api.ErrRange}, {8, math.MaxInt, 0, api.ErrRange}, {2, 0, 0, api.ErrCurve}, {0, 0, 0, api.ErrCur},
	} {
		checkFactor(t, b, x.cur, x.n, x.want, x.e)
	}
}
