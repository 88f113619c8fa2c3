package grid_test

import (
	"math"
	"slices"
	"testing"

	"tenor/api"
	"tenor/grid"
	"tenor/ieee"
)

// checkQuantile, checkWorst, checkMean and checkCount hold one answer each.
func checkQuantile(t *testing.T, x []float64, p, q int, want answer) {
	t.Helper()
	if got := one(grid.Quantile(x, p, q)); !got.is(want) {
		t.Errorf("Quantile(%s, %d, %d) is %v, not %v", short(x), p, q, got, want)
	}
}

func checkWorst(t *testing.T, x []float64, want whole) {
	t.Helper()
	if got := place(grid.Worst(x)); !got.is(want) {
		t.Errorf("Worst(%s) is %v, not %v", short(x), got, want)
	}
}

func checkMean(t *testing.T, x []float64, want answer) {
	t.Helper()
	if got := one(grid.Mean(x)); !got.is(want) {
		t.Errorf("Mean(%s) is %v, not %v", short(x), got, want)
	}
}

func checkCount(t *testing.T, x, edges []float64, want whole) {
	t.Helper()
	if got := counts(grid.Count(x, edges)); !got.is(want) {
		t.Errorf("Count(%s, %s) is %v, not %v", short(x), short(edges), got, want)
	}
}

// at is a place, and parts are counts; bad is an error in their place.
func at(n int) whole { return whole{[]int{n}, api.OK} }

func parts(l ...int) whole { return whole{l, api.OK} }

func bad(e api.Errno) whole { return whole{nil, e} }

// The chapter's examples of numbers.
func TestNumbersExamples(t *testing.T) {
	checkQuantile(t, []float64{3, 1, 2}, 1, 2, value(2))
	checkQuantile(t, []float64{3, 1, 2}, 0, 1, value(1))
	checkQuantile(t, []float64{3, 1, 2}, 1, 1, value(3))
	checkWorst(t, []float64{3, 1, 1}, at(1))
	checkMean(t, []float64{1, 2, 4}, value(7.0/3))
	checkWorst(t, nil, bad(api.ErrNodes))
	checkCount(t, []float64{1, 2, 3, 4}, []float64{2, 4}, parts(1, 2, 1))
}

// Promise 25.3: quantiles, by hand.
func TestQuantileKnown(t *testing.T) {
	ten := []float64{7, 3, 10, 1, 5, 9, 2, 8, 6, 4}
	for _, x := range []struct {
		p, q int
		want float64
	}{
		{0, 1, 1}, {0, 1000000, 1}, {1, 1000000, 1}, {1, 10, 1}, {100000, 1000000, 1}, {100001, 1000000, 2}, {199999, 1000000, 2}, {2, 10, 2}, {3, 10, 3},
		{1, 4, 3}, {1, 3, 4}, {1, 2, 5}, {5, 9, 6}, {2, 3, 7}, {9, 10, 9}, {91, 100, 10}, {899999, 1000000, 9}, {900000, 1000000, 9}, {900001, 1000000, 10}, {1, 1, 10}, {1000000, 1000000, 10},
	} {
		checkQuantile(t, ten, x.p, x.q, value(x.want))
	}
	for _, p := range []int{0, 1, 2, 3} {
		checkQuantile(t, []float64{-2.5}, p, 3, value(-2.5))
	}
	// The order is that of ieee.Sort: the noughts are two.
	noughts := []float64{0, minus, 1, 0, minus, -1}
	for p, want := range []float64{-1, -1, minus, minus, 0, 0, 1} {
		checkQuantile(t, noughts, p, 6, value(want))
	}
	checkQuantile(t, []float64{greatest, -greatest, least, -least, 0}, 1, 5, value(-greatest))
	checkQuantile(t, []float64{greatest, -greatest, least, -least, 0}, 2, 5, value(-least))
	checkQuantile(t, []float64{greatest, -greatest, least, -least, 0}, 4, 5, value(least))
}

// Promise 25.3: the least one's place, and the first of the same bits.
func TestWorstKnown(t *testing.T) {
	for _, x := range []struct {
		l    []float64
		want int
	}{
		{[]float64{5}, 0}, {[]float64{minus}, 0}, {[]float64{1, 2, 3}, 0}, {[]float64{3, 2, 1}, 2}, {[]float64{2, 1, 3, 1}, 1}, {[]float64{1, 1, 1}, 0},
		{[]float64{0, minus}, 1}, {[]float64{minus, 0}, 0}, {[]float64{0, 0}, 0}, {[]float64{0, minus, 0, minus}, 1}, {[]float64{0, minus, -least, -least}, 2},
		{[]float64{-1, -2, -1.5}, 1}, {[]float64{greatest, least, 1}, 1}, {[]float64{least, -greatest, -greatest}, 1}, {[]float64{0, 0, 0, 0, minus}, 4},
	} {
		checkWorst(t, x.l, at(x.want))
	}
}

// Promise 25.3: the mean is one rounding of the exact value.
func TestMeanKnown(t *testing.T) {
	for _, x := range []struct {
		l    []float64
		want float64
	}{
		{[]float64{1}, 1}, {[]float64{-3, 4}, 0.5}, {[]float64{1, 2}, 1.5}, {[]float64{1, 1, 2}, 4.0 / 3}, {[]float64{0.1, 0.2, 0.3}, 0x1.999999999999ap-3},
		{[]float64{greatest, greatest}, greatest}, {[]float64{greatest, greatest, greatest}, greatest}, {[]float64{-greatest, -greatest}, -greatest}, {[]float64{greatest, -greatest}, 0},
		{[]float64{1e300, 1, -1e300}, 1.0 / 3}, {[]float64{1e300, 1, -1e300, 0x1p-60}, 0x1.0000000000000p-2},
		{[]float64{1e308, 1e308, -1e308}, 0x1.7bbef5d3a60d5p+1021},
		{[]float64{minus}, 0}, {[]float64{minus, minus}, 0}, {[]float64{0, minus}, 0},
		{[]float64{least}, least}, {[]float64{least, 0}, 0}, {[]float64{-least, 0}, minus}, {[]float64{least, 3 * least}, 2 * least}, {[]float64{least, 2 * least}, 2 * least}, {[]float64{3 * least, 2 * least}, 2 * least}, {[]float64{-least, 0, 0, -least, minus}, minus},
		{[]float64{1, 1 + 0x1p-52}, 1}, {[]float64{1 + 0x1p-52, 1 + 0x1p-51}, 1 + 0x1p-51}, {[]float64{1, 1 + 0x1p-52, 1 + 0x1p-52}, 1 + 0x1p-52},
	} {
		checkMean(t, x.l, value(x.want))
	}
}

// Promise 25.4: counts, by hand.
func TestCountKnown(t *testing.T) {
	for _, x := range []struct {
		l, edges []float64
		want     []int
	}{
		{nil, []float64{1}, []int{0, 0}}, {[]float64{}, []float64{-1, 0, 1}, []int{0, 0, 0, 0}},
		{[]float64{1}, []float64{1}, []int{0, 1}}, {[]float64{1}, []float64{1 + 0x1p-52}, []int{1, 0}}, {[]float64{1}, []float64{1 - 0x1p-53}, []int{0, 1}},
		{[]float64{5, 1, 4, 2, 3}, []float64{1.5, 2.5, 3.5, 4.5}, []int{1, 1, 1, 1, 1}}, {[]float64{5, 1, 4, 2, 3, 3}, []float64{1, 3, 5}, []int{0, 2, 3, 1}},
		{[]float64{9, 9, 9}, []float64{1, 2, 3}, []int{0, 0, 0, 3}}, {[]float64{-9, -9}, []float64{1, 2, 3}, []int{2, 0, 0, 0}}, {[]float64{2, 2}, []float64{1, 2, 3}, []int{0, 0, 2, 0}},
		// By values: the noughts are one.
		{[]float64{0, minus}, []float64{0}, []int{0, 2}}, {[]float64{0, minus}, []float64{minus}, []int{0, 2}}, {[]float64{0, minus, -least, least}, []float64{minus, least}, []int{1, 2, 1}}, {[]float64{0, minus, -least, least}, []float64{-least, 0}, []int{0, 1, 3}},
		{[]float64{greatest, -greatest, 0}, []float64{-greatest, greatest}, []int{0, 2, 1}},
	} {
		checkCount(t, x.l, x.edges, parts(x.want...))
	}
}

// Promises 25.3 and 25.4: of all sorts of numbers, against another reading.
func TestNumbersSteps(t *testing.T) {
	state := uint64(253)
	seen := map[string]map[api.Errno]int{"quantile": {}, "mean": {}, "count": {}}
	for range 8000 {
		x := someNumbers(&state, below(&state, 24))
		q := 1 + below(&state, []int{3, 30, 1000000}[below(&state, 3)])
		p := below(&state, q+1)
		switch below(&state, 12) {
		case 0:
			p = []int{-1, q + 1}[below(&state, 2)]
		case 1:
			q = []int{0, -1, 1000001, -1000000}[below(&state, 4)]
		}
		want := stepQuantile(x, p, q)
		checkQuantile(t, x, p, q, want)
		seen["quantile"][want.e]++
		checkWorst(t, x, stepWorst(x))
		want = stepMean(x)
		checkMean(t, x, want)
		seen["mean"][want.e]++
		edges := someEdges(&state, x, 12)
		places := stepCount(x, edges)
		checkCount(t, x, edges, places)
		seen["count"][places.e]++
	}
	if n := seen["quantile"]; n[api.OK] < 4000 || n[api.ErrArg] < 500 || n[api.ErrValue] < 300 || n[api.ErrNodes] < 200 {
		t.Errorf("quantiles: only %v", n)
	}
	if n := seen["mean"]; n[api.OK] < 5000 || n[api.ErrValue] < 300 || n[api.ErrNodes] < 200 {
		t.Errorf("means: only %v", n)
	}
	if n := seen["count"]; n[api.OK] < 4000 || n[api.ErrArg] < 200 || n[api.ErrValue] < 300 || n[api.ErrNodes] < 200 {
		t.Errorf("counts: only %v", n)
	}
}

// Promise 25.4: each place among edges, however many there are: at it, and at both sides of it.
func TestCountPlaces(t *testing.T) {
	for _, n := range []int{1, 2, 3, 4, 5, 7, 8, 100, 255, 256} {
		var edges []float64
		for i := range n {
			edges = append(edges, float64(i*i)-40)
		}
		for i, edge := range edges {
			for v, k := range map[float64]int{ieee.Down(edge): i, edge: i + 1, ieee.Up(edge): i + 1} {
				want := make([]int, n+1)
				want[k] = 1
				checkCount(t, []float64{v}, edges, parts(want...))
			}
		}
		checkCount(t, edges, edges, stepCount(edges, edges))
	}
}

// Promises 25.3 and 25.4: as many numbers as may be, and one more.
func TestNumbersLimits(t *testing.T) {
	state := uint64(2530)
	x := make([]float64, most, most+1)
	for i := range x {
		x[i] = float64(i)
	}
	shuffle(&state, x)
	least := slices.Index(x, 0)
	for _, c := range []struct{ p, q, want int }{
		{0, 1, 0}, {1, 1, most - 1}, {1, 2, most/2 - 1}, {1, 1000000, 1}, {2, 1000000, 2}, {999999, 1000000, most - 2}, {1000000, 1000000, most - 1}, {1, 3, 349525}, {500001, 1000000, 524289},
	} {
		checkQuantile(t, x, c.p, c.q, value(float64(c.want)))
	}
	checkWorst(t, x, at(least))
	checkMean(t, x, value(float64(most-1)/2))
	checkCount(t, x, []float64{-1, 0, 10.5, 524288}, parts(0, 0, 11, 524288-11, 524288))
	full := slices.Repeat([]float64{greatest}, most)
	checkMean(t, full, value(greatest))
	checkQuantile(t, full, 1, 2, value(greatest))
	x = append(x, nan)
	for _, q := range []int{1, 0} {
		checkQuantile(t, x, 1, q, wrong(api.ErrNodes))
	}
	checkWorst(t, x, bad(api.ErrNodes))
	checkMean(t, x, wrong(api.ErrNodes))
	checkCount(t, x, []float64{1, 0, nan}, bad(api.ErrNodes))
	checkCount(t, x, make([]float64, 257), bad(api.ErrLong))
	checkCount(t, x[:most:most], make([]float64, 257), bad(api.ErrLong))
}

// Promise 25.3: what is wrong: how many numbers, then what they are, then the parts.
func TestNumbersRefused(t *testing.T) {
	partsOf := [][2]int{{1, 2}, {0, 0}, {1, 0}, {0, -1}, {-1, 1}, {2, 1}, {0, 1000001}, {math.MinInt, math.MaxInt}, {math.MaxInt, math.MaxInt}, {math.MinInt, math.MinInt}, {1, math.MinInt}, {-1, -1}, {-1, -2}, {math.MaxInt, 1}, {1000001, 1000000}, {1000001, 1000001}}
	for i, p := range partsOf {
		for _, none := range [][]float64{nil, {}} {
			checkQuantile(t, none, p[0], p[1], wrong(api.ErrNodes))
		}
		for _, v := range notNumbers() {
			checkQuantile(t, []float64{v}, p[0], p[1], wrong(api.ErrValue))
			checkQuantile(t, []float64{1, 2, v}, p[0], p[1], wrong(api.ErrValue))
			checkQuantile(t, []float64{v, 2, 1}, p[0], p[1], wrong(api.ErrValue))
		}
		if i > 0 {
			checkQuantile(t, []float64{1, 2, 3}, p[0], p[1], wrong(api.ErrArg))
		}
	}
	for _, none := range [][]float64{nil, {}} {
		checkWorst(t, none, bad(api.ErrNodes))
		checkMean(t, none, wrong(api.ErrNodes))
	}
	for _, v := range notNumbers() {
		for _, x := range [][]float64{{v}, {1, v}, {v, 1}, {v, -v}, {-greatest, 1, v, 3}} {
			checkWorst(t, x, bad(api.ErrValue))
			checkMean(t, x, wrong(api.ErrValue))
		}
	}
}

// Promise 25.4: what is wrong: how many edges, then how many numbers, then what they are, then the edges' order.
func TestCountRefused(t *testing.T) {
	ok := []float64{1, 2}
	many := make([]float64, 257)
	for _, x := range [][]float64{nil, {}, {1}, {nan}, {1, inf}} {
		checkCount(t, x, many, bad(api.ErrLong))
		checkCount(t, x, slices.Repeat([]float64{nan}, 257), bad(api.ErrLong))
		checkCount(t, x, nil, bad(api.ErrNodes))
		checkCount(t, x, []float64{}, bad(api.ErrNodes))
	}
	checkCount(t, nil, many[:256], bad(api.ErrArg))
	checkCount(t, nil, many[:1], parts(0, 0))
	for _, v := range notNumbers() {
		for _, x := range [][]float64{nil, {1}, {nan}} {
			for _, edges := range [][]float64{{v}, {1, v}, {v, 1}, {2, 1, v}, {v, v}} {
				checkCount(t, x, edges, bad(api.ErrValue))
			}
		}
		for _, edges := range [][]float64{ok, {1}, {2, 1}, {0, minus}} {
			checkCount(t, []float64{v}, edges, bad(api.ErrValue))
			checkCount(t, []float64{1, 2, v}, edges, bad(api.ErrValue))
		}
	}
	for _, edges := range [][]float64{{1, 1}, {2, 1}, {0, minus}, {minus, 0}, {1, 2, 2}, {1, 2, 3, 2.5}, {1, 1, 2}, {-1, -2}, {greatest, -greatest}} {
		checkCount(t, nil, edges, bad(api.ErrArg))
		checkCount(t, []float64{1, 5, -5}, edges, bad(api.ErrArg))
	}
}

// Promise 25.6: the order of the numbers makes nothing; a quantile does not fall where p rises, its ends are the least and the greatest number, and enough numbers are at most it.
func TestNumbersOrder(t *testing.T) {
	state := uint64(256)
	for range 1500 {
		x := someNumbers(&state, 1+below(&state, 20))
		if stepNumbers(x) != api.OK {
			continue
		}
		y := slices.Clone(x)
		shuffle(&state, y)
		edges := someEdges(&state, x, 8)
		checkMean(t, y, one(grid.Mean(x)))
		checkCount(t, y, edges, counts(grid.Count(x, edges)))
		q := 1 + below(&state, 40)
		ahead := ieee.Sort(x)[0]
		for p := range q + 1 {
			v, e := grid.Quantile(x, p, q)
			checkQuantile(t, y, p, q, one(v, e))
			most := 0
			for _, w := range x {
				if w <= v {
					most++
				}
			}
			if e != api.OK || ieee.Less(v, ahead) || most*q < len(x)*p || p == 0 && !same(v, ahead) {
				t.Errorf("Quantile(%v, %d, %d) is %v, behind %v", x, p, q, v, ahead)
			}
			ahead = v
		}
		if end := ieee.Sort(x)[len(x)-1]; !same(ahead, end) {
			t.Errorf("the last quantile of %v is %v, not %v", x, ahead, end)
		}
	}
}

// Promise 25.7: the mean lies from the least to the greatest number; the counts add up.
func TestNumbersTogether(t *testing.T) {
	state := uint64(257)
	held := 0
	for range 3000 {
		x := someNumbers(&state, 1+below(&state, 20))
		if m, e := grid.Mean(x); e == api.OK && (m < slices.Min(x) || m > slices.Max(x)) {
			t.Errorf("Mean(%v) is %v", x, m)
		}
		l, e := grid.Count(x, someEdges(&state, x, 9))
		if e != api.OK {
			continue
		}
		held++
		sum := 0
		for _, n := range l {
			sum += n
		}
		if sum != len(x) {
			t.Errorf("the counts %v of %v", l, x)
		}
	}
	if held < 1500 {
		t.Errorf("only %d", held)
	}
}

// DOC.md, rules 3 and 8, and promise 25.8: what is given stays as it was, its spare room too; what is told is new memory.
func TestNumbersKeeps(t *testing.T) {
	all := []float64{3, 1, 2, 0, minus, 9, 8}
	bounds := []float64{0, 2, 3, -7, -8}
	x, edges := all[:5], bounds[:3]
	checkQuantile(t, x, 1, 2, value(1))
	checkWorst(t, x, at(4))
	checkMean(t, x, value(1.2))
	first, e := grid.Count(x, edges)
	second, _ := grid.Count(x, edges)
	for i := range first[:cap(first)] {
		first[:cap(first)][i] = 77
	}
	if e != api.OK || !slices.Equal(second, []int{0, 3, 1, 1}) {
		t.Errorf("Count tells %v", second)
	}
	if !sameList(all, []float64{3, 1, 2, 0, minus, 9, 8}) || !sameList(bounds, []float64{0, 2, 3, -7, -8}) {
		t.Errorf("%v and %v were made of what was given", all, bounds)
	}
	clear(all)
	clear(bounds)
	if !slices.Equal(second, []int{0, 3, 1, 1}) {
		t.Errorf("Count keeps what it was given")
	}
}
