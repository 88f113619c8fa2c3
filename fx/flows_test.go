package fx_test

import (
	"math"
	"slices"
	"sync"
	"testing"

	"tenor/acc"
	"tenor/api"
)

// Promise 23.3: bits, reckoned elsewhere.
func TestFlowsKnown(t *testing.T) {
	l := []api.Flow{f(10, 1234.56, 1), f(20, -98765.43, 3), f(20, 0.01, 5), f(30, minus, 7), f(40, 5000000.07, 2), f(50, -77.7, 8), f(60, 31.25, 4), f(109572, 1e-3, 6)}
	state := uint64(2330)
	for _, x := range []struct {
		table, to int
		amounts   []float64
		sum       float64
	}{
		{0, 1, []float64{0x1.34a3d70a3d70ap+10, -0x1.1717cc29731ap+9, 0x1.5d141be13d557p-7, minus, 0x1.1979bd4b82c33p+22, -0x1.e8f681ac8a045p+2, 0x1.2b01de22d7fb6p+5, 0x1.59959d8b96a1ap-11}, 0x1.1984c5c7ae7dcp+22},
		{0, 3, []float64{0x1.aaa589cebe22cp+17, -0x1.81cd6e147ae14p+16, 0x1.e28bef3c190dbp+0, minus, 0x1.8518945bcf1e7p+29, -0x1.51f51c40524fcp+10, 0x1.9d54b76a869afp+12, 0x1.ddb76fd54986dp-4}, 0x1.8527d4c4b6ceep+29},
		{0, 8, []float64{0x1.885cc0faab70fp+13, -0x1.62ccdfa753059p+12, 0x1.bbc5334f99eeep-4, minus, 0x1.65d445092b01p+25, -0x1.36ccccccccccdp+6, 0x1.7c1ddb5a1ddacp+8, 0x1.b7541096a1367p-8}, 0x1.65e24bb24b583p+25},
		{1, 1, []float64{0x1.34a3d70a3d70ap+10, -0x1.81cd6e147ae14p+17, 0x1.7ab56fda2b56ep-6, minus, 0x1.af956fa4b8986p+22, -0x1.0a95d2ccfe1bbp+7, 0x1.6fe1230e7e19dp+4, 0x1.0670342116703p-8}, 0x1.a3989559eda69p+22},
		{1, 3, []float64{0x1.34a3d70a3d70ap+9, -0x1.81cd6e147ae14p+16, 0x1.7ab56fda2b56ep-7, minus, 0x1.af956fa4b8986p+21, -0x1.0a95d2ccfe1bbp+6, 0x1.6fe1230e7e19dp+3, 0x1.0670342116703p-9}, 0x1.a3989559eda69p+21},
		{1, 8, []float64{0x1.67d46cb0ae265p+9, -0x1.c1ca43e456906p+16, 0x1.b985142f8cf8cp-7, minus, 0x1.f72a1aab205efp+21, -0x1.36ccccccccccdp+6, 0x1.ace4f9f4e05f1p+3, 0x1.31f71aadf146bp-9}, 0x1.e9304392cdc69p+21},
	} {
		pairs := knownTables()[x.table].l
		var want []api.Flow
		for i, amount := range x.amounts {
			want = append(want, f(l[i].Day, amount, x.to))
		}
		checkConvert(t, pairs, l, x.to, want, api.OK)
		checkSum(t, pairs, l, x.to, value(x.sum))
		checkSum(t, mixed(&state, pairs), mixed(&state, l), x.to, value(x.sum))
	}
}

// Promise 23.3: by hand, where each rounding, and each one too many, would be seen.
func TestFlowsHand(t *testing.T) {
	pairs := []api.Pair{p(1, 2, 3), p(2, 3, 0.25), p(4, 3, 8)}
	for _, x := range []struct {
		amount   float64
		cur, to  int
		one, sum float64 // of the flow alone
	}{
		{5, 1, 2, 15, 15},
		{5, 2, 1, 0x1.aaaaaaaaaaaaap+0, 0x1.aaaaaaaaaaaaap+0}, // 5 times near of 1/3
		{3, 2, 1, 1, 1},
		{-5, 1, 2, -15, -15},
		{5, 1, 3, 3.75, 3.75},
		{5, 3, 4, 0.625, 0.625},
		{5, 1, 4, 0.46875, 0.46875},
		{5, 4, 1, 5 * 0x1.5555555555555p+3, 5 * 0x1.5555555555555p+3},
		{5, 8, 8, 5, 5},
		{greatest, 1, 1, greatest, greatest},
		{least, 1, 1, least, least},
		{0, 1, 2, 0, 0},
		{minus, 1, 2, minus, 0},
		{minus, 6, 6, minus, 0},
		{least, 2, 3, 0, 0},
		{-least, 2, 3, minus, minus},
		{least, 3, 4, 0, 0},
		{-least, 3, 4, minus, minus},
		{-2 * least, 2, 3, minus, minus},
		{3 * least, 2, 3, least, least},
	} {
		l := []api.Flow{f(77, x.amount, x.cur)}
		checkConvert(t, pairs, l, x.to, []api.Flow{f(77, x.one, x.to)}, api.OK)
		checkSum(t, pairs, l, x.to, value(x.sum))
	}
	// The rate is rounded, the products are not: 3 times near of 1/3 is 2^-54 below 1.
	checkSum(t, pairs, []api.Flow{f(1, 3, 2), f(2, -1, 1)}, 1, value(-0x1p-54))
	checkSum(t, pairs, []api.Flow{f(1, 1e308, 1), f(2, 1e308, 1), f(3, -1e308, 1), f(3, -1e308, 1), f(3, 1, 2)}, 2, value(1))
	checkSum(t, pairs, []api.Flow{f(1, greatest, 1), f(2, 7, 2), f(3, -greatest, 1)}, 2, value(7))
	checkSum(t, pairs, []api.Flow{f(1, 1e17, 4), f(2, 1, 3), f(3, -1e17, 4)}, 3, value(1))
	checkSum(t, pairs, []api.Flow{f(1, least, 2), f(2, least, 2)}, 3, value(0))
	checkSum(t, pairs, []api.Flow{f(1, least, 2), f(2, least, 2), f(3, least, 2)}, 3, value(least))
	checkSum(t, pairs, []api.Flow{f(1, 3, 2), f(1, -3, 2)}, 1, value(0))
	// The order is that of the list, and two flows of a day stay two.
	l := []api.Flow{f(9, 1, 2), f(3, 2, 1), f(9, 3, 2), f(9, 3, 2)}
	checkConvert(t, pairs, l, 2, []api.Flow{f(9, 1, 2), f(3, 6, 2), f(9, 3, 2), f(9, 3, 2)}, api.OK)
}

// Promise 23.3: no flows, and flows at the limits.
func TestFlowsEnds(t *testing.T) {
	for _, pairs := range [][]api.Pair{nil, given()} {
		for to := 1; to <= top; to++ {
			checkConvert(t, pairs, nil, to, nil, api.OK)
			checkConvert(t, pairs, []api.Flow{}, to, nil, api.OK)
			checkSum(t, pairs, nil, to, value(0))
		}
		for _, to := range notCurrencies() {
			checkRefused(t, pairs, nil, to, api.ErrCur)
		}
	}
	l := make([]api.Flow, 4096)
	want := slices.Clone(l)
	for i := range l {
		l[i], want[i] = f(i, 3, 3), f(i, 24, 1)
	}
	checkConvert(t, given(), l, 1, want, api.OK)
	checkSum(t, given(), l, 1, value(24*4096))
	checkRefused(t, given(), append(l, f(1, 1, 1)), 1, api.ErrMany)
	checkRefused(t, given(), append(l, f(-1, nan, 0)), 0, api.ErrMany)
	checkConvert(t, given(), []api.Flow{f(0, 1, 1), f(109572, 1, 1)}, 2, []api.Flow{f(0, 0.5, 2), f(109572, 0.5, 2)}, api.OK)
}

// Promise 23.3: flow.Check's errors come first, then what is no currency.
func TestFlowsRefused(t *testing.T) {
	sound := f(5, 1, 1)
	for _, to := range append(notCurrencies(), 1, 4) {
		for _, day := range []int{math.MinInt, -1, 109573, math.MaxInt} {
			checkRefused(t, given(), []api.Flow{sound, f(day, nan, 0)}, to, api.ErrRange)
			checkRefused(t, given(), []api.Flow{f(day, 1, 1), f(1, nan, 1)}, to, api.ErrRange)
		}
		for _, x := range notNumbers() {
			checkRefused(t, given(), []api.Flow{sound, f(1, x, 0)}, to, api.ErrValue)
			checkRefused(t, given(), []api.Flow{f(1, x, 1), f(-1, x, 1)}, to, api.ErrValue)
		}
		for _, cur := range notCurrencies() {
			checkRefused(t, given(), []api.Flow{sound, f(1, 1, cur), f(-1, 1, 1)}, to, api.ErrCur)
		}
	}
	for _, to := range notCurrencies() {
		checkRefused(t, given(), []api.Flow{sound}, to, api.ErrCur)
		checkRefused(t, given(), []api.Flow{sound, f(1, 1, 8)}, to, api.ErrCur)
	}
}

// Promise 23.3: the first flow that has no rate, and amounts that are no numbers.
func TestFlowsWithoutRate(t *testing.T) {
	pairs := []api.Pair{p(1, 2, 0x1p1000), p(2, 3, 0x1p1000), p(4, 2, 0x1p-1000), p(5, 4, 0x1p-1000)}
	checkRefused(t, pairs, []api.Flow{f(1, 1, 8)}, 2, api.ErrPath)
	checkRefused(t, pairs, []api.Flow{f(1, 0, 8)}, 2, api.ErrPath)
	checkRefused(t, pairs, []api.Flow{f(1, 1, 2)}, 8, api.ErrPath)
	checkRefused(t, pairs, []api.Flow{f(1, 1, 1)}, 3, api.ErrValue)
	checkRefused(t, pairs, []api.Flow{f(1, 0, 1)}, 3, api.ErrValue)
	checkRefused(t, pairs, []api.Flow{f(1, 0, 3)}, 1, api.ErrValue)
	checkRefused(t, pairs, []api.Flow{f(1, 0, 5)}, 2, api.ErrValue)
	checkRefused(t, pairs, []api.Flow{f(1, 1, 3), f(1, 1, 1), f(2, 1, 8)}, 3, api.ErrValue)
	checkRefused(t, pairs, []api.Flow{f(1, 1, 3), f(2, 1, 8), f(1, 1, 1)}, 3, api.ErrPath)
	checkRefused(t, nil, []api.Flow{f(1, 1, 3)}, 4, api.ErrPath)
	// One amount that is too great: Convert tells that of the first flow, Sum asks for all rates, and then for the sum.
	great := f(1, 0x1p1000, 1)
	checkRefused(t, pairs, []api.Flow{great}, 2, api.ErrValue)
	checkRefused(t, pairs, []api.Flow{great, f(2, 0x1p1000, 1)}, 2, api.ErrValue)
	checkConvert(t, pairs, []api.Flow{great, f(2, 1, 8)}, 2, nil, api.ErrValue)
	checkSum(t, pairs, []api.Flow{great, f(2, 1, 8)}, 2, wrong(api.ErrPath))
	checkRefused(t, pairs, []api.Flow{f(2, 1, 8), great}, 2, api.ErrPath)
	checkConvert(t, pairs, []api.Flow{great, f(1, -0x1p1000, 1)}, 2, nil, api.ErrValue)
	checkSum(t, pairs, []api.Flow{great, f(1, -0x1p1000, 1)}, 2, value(0))
	checkRefused(t, pairs, []api.Flow{f(1, -0x1p1000, 1)}, 2, api.ErrValue)
	// Each amount is a number, their sum is none.
	l := []api.Flow{f(1, greatest, 2), f(2, greatest, 2)}
	checkConvert(t, pairs, l, 2, l, api.OK)
	checkSum(t, pairs, l, 2, wrong(api.ErrValue))
	checkSum(t, pairs, []api.Flow{f(1, -greatest, 2), f(2, -greatest, 2)}, 2, wrong(api.ErrValue))
	checkSum(t, pairs, []api.Flow{f(1, greatest, 2), f(2, 0x1p970, 2)}, 2, wrong(api.ErrValue))
	checkSum(t, pairs, []api.Flow{f(1, greatest, 2), f(2, 0x1p970, 2), f(3, -least, 2)}, 2, value(greatest))
}

// Promise 23.3: all sorts of tables and flows.
func TestFlowsSteps(t *testing.T) {
	state := uint64(233)
	converted, summed := map[api.Errno]int{}, map[api.Errno]int{}
	for i := range 3000 {
		pairs := someTree(&state, 1+below(&state, 7))
		if i%3 == 0 {
			pairs = plainTree(&state, 7)
		}
		l := someFlows(&state, below(&state, 9), 2+below(&state, 7))
		if i%20 == 0 && len(l) > 0 {
			bad := &l[below(&state, len(l))]
			switch below(&state, 3) {
			case 0:
				bad.Day = 109573
			case 1:
				bad.Amount = notNumbers()[below(&state, 3)]
			case 2:
				bad.Cur = 9
			}
		}
		to := 1 + below(&state, 4)
		want, e := stepConvert(pairs, l, to)
		checkConvert(t, pairs, l, to, want, e)
		converted[e]++
		sum := stepSum(pairs, l, to)
		checkSum(t, pairs, l, to, sum)
		summed[sum.e]++
	}
	for _, told := range []map[api.Errno]int{converted, summed} {
		if told[api.OK] < 700 || told[api.ErrPath] < 300 || told[api.ErrValue] < 150 || told[api.ErrCur] < 20 || told[api.ErrRange] < 20 {
			t.Errorf("only %v and %v", converted, summed)
		}
	}
}

// Promise 23.6: the order of the flows makes nothing.
func TestSumOfAnyOrder(t *testing.T) {
	state := uint64(236)
	for range 200 {
		pairs := plainTree(&state, 7)
		for i := range pairs {
			pairs[i].X *= 0.1 + float64(below(&state, 100))
		}
		l := someFlows(&state, 2+below(&state, 20), top)
		to := 1 + below(&state, top)
		want := told(table(t, pairs...).Sum(l, to))
		for range 8 {
			checkSum(t, mixed(&state, pairs), mixed(&state, l), to, want)
		}
		// A flow and its other side, wherever they stand, make nothing.
		more := append(slices.Clone(l), f(1, 1e300, to), f(2, 0.1, to), f(3, -0.1, to), f(4, -1e300, to))
		checkSum(t, pairs, mixed(&state, more), to, want)
	}
}

// Promise 23.6: of flows that are all in the currency it is the exact sum of the amounts; the table makes nothing.
func TestSumAtHome(t *testing.T) {
	state := uint64(2361)
	for range 300 {
		l := someFlows(&state, below(&state, 12), 1)
		var amounts []float64
		for _, x := range l {
			amounts = append(amounts, x.Amount)
		}
		want := value(acc.Sum(amounts...))
		if !isNumber(want.x) {
			want = wrong(api.ErrValue)
		}
		checkSum(t, nil, l, 1, want)
		checkSum(t, someTree(&state, below(&state, 8)), l, 1, want)
		checkConvert(t, someTree(&state, below(&state, 8)), l, 1, l, api.OK)
	}
}

// Promise 23.7 and DOC.md, rule 3: flows stay as they were, their spare room too; what is told is new memory.
func TestFlowsNotKept(t *testing.T) {
	spare := []api.Flow{f(9, 1, 1), f(3, 2, 3), f(9, 3, 2), f(70, 77, 77), f(71, 78, 78)}
	before := slices.Clone(spare)
	l := spare[:3]
	x := table(t, given()...)
	for to := 1; to <= 3; to++ {
		want, e := stepConvert(given(), l, to)
		if e != api.OK {
			t.Fatal(e)
		}
		one, _ := x.Convert(l, to)
		wipe(one)
		other, _ := x.Convert(l, to)
		if !sameFlows(other, want) {
			t.Errorf("behind a list that was written over: %v, not %v", other, want)
		}
		if v, e := x.Sum(l, to); !told(v, e).is(stepSum(given(), l, to)) {
			t.Errorf("Sum is %x, %v", v, e)
		}
		if !slices.Equal(spare, before) {
			t.Fatalf("the flows are %v, not %v", spare, before)
		}
	}
	told, _ := x.Convert(l, 2)
	wipe(spare)
	if want, _ := stepConvert(given(), before[:3], 2); !sameFlows(told, want) {
		t.Errorf("the flows went on with what was given: %v", told)
	}
	checkSum(t, given(), before[:3], 2, value(11.5))
}

// wipe writes over a list, its spare room too.
func wipe(l []api.Flow) {
	l = l[:cap(l)]
	for i := range l {
		l[i] = f(99, 99, 99)
	}
}

// Promise 23.7: calls change nothing, so that many may go on at one time.
func TestManyAtOnce(t *testing.T) {
	pairs := knownTables()[0].l
	x := table(t, pairs...)
	state := uint64(237)
	l := someFlows(&state, 40, top)
	for i := range l {
		l[i].Amount = float64(i) - 20.5
	}
	var all sync.WaitGroup
	for to := 1; to <= top; to++ {
		want, _ := stepConvert(pairs, l, to)
		sum := stepSum(pairs, l, to)
		all.Add(1)
		go func() {
			defer all.Done()
			for range 5 {
				got, e := x.Convert(l, to)
				if e != api.OK || !sameFlows(got, want) {
					t.Errorf("Convert to %d is %v, %v", to, got, e)
				}
				if got := told(x.Sum(l, to)); !got.is(sum) {
					t.Errorf("Sum in %d is %v", to, got)
				}
			}
		}()
	}
	all.Wait()
}
