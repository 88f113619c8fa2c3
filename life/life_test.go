package life_test

import (
	"math"
	"reflect"
	"slices"
	"testing"

	"tenor/api"
	"tenor/life"
)

// given is the chapter's ledger.
func given(t *testing.T) *life.Ledger {
	t.Helper()
	return made(t, []api.Flow{f(10, 4, 1), f(20, 8, 1), f(10, 1, 2)}, 1, 5)
}

// The chapter's examples.
func TestExamples(t *testing.T) {
	x := given(t)
	checkPass(t, x, 10, nil, api.OK)
	checkPass(t, x, 11, []api.Flow{f(10, 4, 1)}, api.OK)
	checkCash(t, x, value(4))
	checkLeft(t, x, f(20, 8, 1))
	checkPass(t, x, 10, nil, api.ErrPast)
	checkAdd(t, x, []api.Flow{f(10, 1, 1)}, api.ErrPast)
	checkAdd(t, x, []api.Flow{f(11, 1, 1)}, api.OK)
	if x.Day() != 11 {
		t.Errorf("Day is %d", x.Day())
	}
}

// The embedding gives a ledger no calls but the chapter's.
func TestCalls(t *testing.T) {
	var names []string
	for m := range reflect.TypeFor[*life.Ledger]().Methods() {
		names = append(names, m.Name)
	}
	slices.Sort(names)
	if !slices.Equal(names, []string{"Add", "Cash", "Copy", "Day", "Left", "Pass", "Worth"}) {
		t.Errorf("the calls are %v", names)
	}
}

// Promise 24.1: the flows in the currency, in their order, and no cash.
func TestNew(t *testing.T) {
	l := []api.Flow{f(30, 1, 3), f(10, minus, 2), f(30, 2, 2), f(10, 3, 3), f(5, 4, 2), f(30, 2, 2), f(0, 5, 1), f(end, 6, 8)}
	for cur, want := range map[int][]api.Flow{
		2: {f(10, minus, 2), f(30, 2, 2), f(5, 4, 2), f(30, 2, 2)},
		3: {f(30, 1, 3), f(10, 3, 3)},
		4: nil,
		8: {f(end, 6, 8)},
	} {
		x := made(t, l, cur, 5)
		checkLeft(t, x, want...)
		checkCash(t, x, value(0))
		if x.Day() != 5 {
			t.Errorf("Day is %d", x.Day())
		}
	}
	for _, none := range [][]api.Flow{nil, {}} {
		for _, day := range []int{0, 5, end} {
			x := made(t, none, 1, day)
			checkLeft(t, x)
			checkCash(t, x, value(0))
			if x.Day() != day {
				t.Errorf("Day is %d", x.Day())
			}
		}
	}
	checkLeft(t, made(t, []api.Flow{pay(end, 1)}, 1, end), pay(end, 1))
	checkLeft(t, made(t, []api.Flow{pay(0, 1)}, 1, 0), pay(0, 1))
}

// Promise 24.1: a flow ahead of the day, in the currency alone.
func TestNewPast(t *testing.T) {
	for _, day := range []int{1, 5, end} {
		checkNew(t, []api.Flow{pay(day, 1)}, 1, day, api.OK)
		checkNew(t, []api.Flow{pay(day-1, 1)}, 1, day, api.ErrPast)
		checkNew(t, []api.Flow{pay(0, 0)}, 1, day, api.ErrPast)
		checkNew(t, []api.Flow{pay(end, 1), pay(day, 1), pay(day-1, 1), pay(end, 1)}, 1, day, api.ErrPast)
		checkNew(t, []api.Flow{pay(day, 1), f(day-1, 1, 2), f(0, 1, 8)}, 1, day, api.OK)
	}
}

// badList is a list of flows that may not be, and its error.
type badList struct {
	l []api.Flow
	e api.Errno
}

// badFlows is such lists around a good flow; of several bad flows the first one is told.
func badFlows(good api.Flow) []badList {
	all := []badList{
		{slices.Repeat([]api.Flow{good}, 4097), api.ErrMany},
		{slices.Repeat([]api.Flow{f(-1, nan, 0)}, 4097), api.ErrMany},
		{slices.Repeat([]api.Flow{f(good.Day, 1, 5)}, 4097), api.ErrMany},
		{[]api.Flow{good, f(good.Day, 1, 9), f(-1, 1, 1), f(good.Day, nan, 1)}, api.ErrCur},
		{[]api.Flow{f(-1, nan, 9)}, api.ErrRange},
		{[]api.Flow{f(good.Day, inf, 9)}, api.ErrValue},
	}
	for _, n := range notDays() {
		all = append(all, badList{[]api.Flow{good, f(n, 1, good.Cur)}, api.ErrRange}, badList{[]api.Flow{f(n, 1, 5), good}, api.ErrRange})
	}
	for _, x := range notNumbers() {
		all = append(all, badList{[]api.Flow{good, f(good.Day, x, good.Cur)}, api.ErrValue}, badList{[]api.Flow{f(good.Day, x, 5), good}, api.ErrValue})
	}
	for _, n := range notCurrencies() {
		all = append(all, badList{[]api.Flow{good, f(good.Day, 1, n)}, api.ErrCur})
	}
	return all
}

// Promise 24.1: flow.Check's error, then the currency, then the day, then what is past.
func TestNewRefused(t *testing.T) {
	past := pay(9, 1)
	for _, bad := range badFlows(pay(50, 1)) {
		for _, cur := range append(notCurrencies(), 1, 2) {
			for _, day := range append(notDays(), 50, 51) {
				checkNew(t, bad.l, cur, day, bad.e)
			}
		}
		checkNew(t, append([]api.Flow{past}, bad.l...), 1, 50, bad.e)
	}
	for _, cur := range notCurrencies() {
		for _, day := range append(notDays(), 0, 10, end) {
			checkNew(t, []api.Flow{past}, cur, day, api.ErrCur)
			checkNew(t, nil, cur, day, api.ErrCur)
		}
	}
	for _, day := range notDays() {
		for cur := 1; cur <= 8; cur++ {
			checkNew(t, []api.Flow{past}, cur, day, api.ErrRange)
			checkNew(t, nil, cur, day, api.ErrRange)
		}
	}
	for cur := 1; cur <= 8; cur++ {
		checkNew(t, []api.Flow{f(9, 1, cur)}, cur, 10, api.ErrPast)
		checkNew(t, []api.Flow{f(9, 1, cur)}, 1+cur%8, 10, api.OK)
	}
}

// Promise 24.1: what is added stands behind the others, in its order; the others' currencies are left out.
func TestAdd(t *testing.T) {
	x := given(t)
	for _, none := range [][]api.Flow{nil, {}, {f(4, 1, 2), f(0, 1, 8)}} {
		checkAdd(t, x, none, api.OK)
		checkLeft(t, x, f(10, 4, 1), f(20, 8, 1))
	}
	checkAdd(t, x, []api.Flow{pay(30, 1), f(6, 1, 3), pay(5, minus), pay(20, 8)}, api.OK)
	checkAdd(t, x, []api.Flow{pay(5, 2)}, api.OK)
	checkLeft(t, x, pay(10, 4), pay(20, 8), pay(30, 1), pay(5, minus), pay(20, 8), pay(5, 2))
	checkCash(t, x, value(0))
	checkPass(t, x, 20, []api.Flow{pay(10, 4), pay(5, minus), pay(5, 2)}, api.OK)
	checkAdd(t, x, []api.Flow{pay(end, 7), pay(20, 9)}, api.OK)
	checkLeft(t, x, pay(20, 8), pay(30, 1), pay(20, 8), pay(end, 7), pay(20, 9))
	checkCash(t, x, value(6))
}

// Promise 24.1: what Add refuses, in its order; nothing of a list that is refused is taken.
func TestAddRefused(t *testing.T) {
	x := given(t)
	for _, bad := range badFlows(pay(50, 1)) {
		checkAdd(t, x, bad.l, bad.e)
		checkAdd(t, x, append([]api.Flow{pay(4, 1)}, bad.l...), bad.e)
	}
	for _, day := range []int{0, 4} {
		checkAdd(t, x, []api.Flow{pay(day, 1)}, api.ErrPast)
		checkAdd(t, x, []api.Flow{pay(7, 1), f(3, 1, 2), pay(day, 0)}, api.ErrPast)
		checkAdd(t, x, []api.Flow{f(day, 1, 2)}, api.OK)
	}
	checkPass(t, x, 12, []api.Flow{pay(10, 4)}, api.OK)
	checkAdd(t, x, []api.Flow{pay(12, 1), pay(11, 1)}, api.ErrPast)
	checkAdd(t, x, []api.Flow{pay(12, 1)}, api.OK)
	checkPass(t, x, end, []api.Flow{pay(20, 8), pay(12, 1)}, api.OK)
	checkAdd(t, x, []api.Flow{pay(end-1, 1)}, api.ErrPast)
	checkAdd(t, x, []api.Flow{pay(end, 1)}, api.OK)
}

// Promise 24.1: as many flows as may be left, and one more.
func TestFull(t *testing.T) {
	whole := slices.Repeat([]api.Flow{pay(10, 1)}, 4096)
	for _, first := range []int{0, 1, 2000, 4095, 4096} {
		x := made(t, whole[:first], 1, 5)
		checkAdd(t, x, whole[first:], api.OK)
		checkAdd(t, x, whole[:1], api.ErrMany)
		checkAdd(t, x, whole, api.ErrMany)
		checkAdd(t, x, []api.Flow{pay(10, 1), f(1, 1, 2)}, api.ErrMany)
		checkAdd(t, x, []api.Flow{pay(10, 1), pay(4, 1)}, api.ErrPast)
		checkAdd(t, x, slices.Repeat([]api.Flow{f(1, 1, 2)}, 4096), api.OK)
		checkAdd(t, x, nil, api.OK)
		checkLeft(t, x, whole...)
	}
	x := made(t, append(slices.Clone(whole[:4094]), pay(6, 1), pay(7, 2)), 1, 5)
	checkAdd(t, x, []api.Flow{pay(8, 1)}, api.ErrMany)
	checkPass(t, x, 8, []api.Flow{pay(6, 1), pay(7, 2)}, api.OK)
	checkAdd(t, x, []api.Flow{pay(8, 1), pay(8, 2), pay(8, 3)}, api.ErrMany)
	checkAdd(t, x, []api.Flow{pay(8, 1), f(1, 1, 2), pay(8, 2)}, api.OK)
	checkAdd(t, x, []api.Flow{pay(8, 1)}, api.ErrMany)
	// There is no end to what was paid.
	for n := 11; n < 16; n++ {
		paid, e := x.Pass(n)
		if e != api.OK || len(paid) != 4096 {
			t.Fatalf("Pass(%d) is %d flows, %v", n, len(paid), e)
		}
		checkAdd(t, x, slices.Repeat([]api.Flow{pay(n, 1)}, 4096), api.OK)
	}
	checkCash(t, x, value(3+4094+3+4*4096))
}

// Promise 24.2: what is paid lies ahead of the day, and is told in its order.
func TestPass(t *testing.T) {
	l := []api.Flow{pay(30, 1), pay(10, 2), pay(20, 3), pay(10, minus), pay(5, 5), pay(30, 6), pay(end, 7), pay(9, 0)}
	x := made(t, l, 1, 5)
	checkPass(t, x, 10, []api.Flow{pay(5, 5), pay(9, 0)}, api.OK)
	checkLeft(t, x, pay(30, 1), pay(10, 2), pay(20, 3), pay(10, minus), pay(30, 6), pay(end, 7))
	checkCash(t, x, value(5))
	checkPass(t, x, 10, nil, api.OK)
	checkPass(t, x, 30, []api.Flow{pay(10, 2), pay(20, 3), pay(10, minus)}, api.OK)
	checkLeft(t, x, pay(30, 1), pay(30, 6), pay(end, 7))
	checkCash(t, x, value(10))
	checkPass(t, x, 31, []api.Flow{pay(30, 1), pay(30, 6)}, api.OK)
	checkPass(t, x, end, nil, api.OK)
	checkPass(t, x, end, nil, api.OK)
	checkLeft(t, x, pay(end, 7)) // no day is behind the last one
	checkCash(t, x, value(17))
	all := made(t, l, 1, 0)
	checkPass(t, all, end, []api.Flow{pay(30, 1), pay(10, 2), pay(20, 3), pay(10, minus), pay(5, 5), pay(30, 6), pay(9, 0)}, api.OK)
	checkCash(t, all, value(17))
	none := made(t, nil, 8, 0)
	checkPass(t, none, 0, nil, api.OK)
	checkPass(t, none, end, nil, api.OK)
	checkLeft(t, none)
	checkCash(t, none, value(0))
}

// Promise 24.2: what Pass refuses.
func TestPassRefused(t *testing.T) {
	x := given(t)
	for _, day := range []int{5, 12, end} {
		if _, e := x.Pass(day); e != api.OK {
			t.Fatalf("Pass(%d) is %v", day, e)
		}
		for _, n := range notDays() {
			checkPass(t, x, n, nil, api.ErrRange)
		}
		for _, n := range []int{0, day - 1} {
			checkPass(t, x, n, nil, api.ErrPast)
		}
	}
}

// Promise 24.3: the cash is summed exactly, and rounded when it is told; an infinity is no cash, but comes back.
func TestCash(t *testing.T) {
	for _, x := range []struct {
		amounts []float64
		want    answer
	}{
		{[]float64{1e308, 1e308, -1e308}, value(1e308)},
		{[]float64{1, 0x1p-60, -1}, value(0x1p-60)},
		{[]float64{1, 0x1p-53, 0x1p-106}, value(1 + 0x1p-52)},
		{[]float64{1, 0x1p-53}, value(1)},
		{[]float64{minus}, value(0)},
		{[]float64{minus, minus, minus}, value(0)},
		{[]float64{5, -5}, value(0)},
		{[]float64{least, -least}, value(0)},
		{[]float64{-least}, value(-least)},
		{[]float64{greatest, 0x1p970}, wrong(api.ErrValue)},
		{[]float64{greatest, 0x1p970, -least}, value(greatest)},
		{[]float64{-greatest, -greatest}, wrong(api.ErrValue)},
		{[]float64{4.35, -1234.56, 100.1, 0.07, -33.3, 7.7, 1e17, 250.25, -1e-3, -1e17}, value(-0x1.c4b20c49ba5e3p+9)},
	} {
		var l []api.Flow
		for i, amount := range x.amounts {
			l = append(l, pay(100-i, amount))
		}
		at := made(t, l, 1, 0)
		checkPass(t, at, 101, l, api.OK)
		checkCash(t, at, x.want)
		by := made(t, l, 1, 0)
		for n := range 102 {
			if _, e := by.Pass(n); e != api.OK {
				t.Fatalf("Pass(%d) is %v", n, e)
			}
		}
		checkCash(t, by, x.want)
	}
	x := made(t, []api.Flow{pay(1, greatest), pay(2, greatest), pay(3, -greatest), pay(4, -greatest), pay(5, 3)}, 1, 0)
	for i, want := range []answer{value(0), value(0), value(greatest), wrong(api.ErrValue), value(greatest), value(0), value(3)} {
		if _, e := x.Pass(i); e != api.OK {
			t.Fatalf("Pass(%d) is %v", i, e)
		}
		checkCash(t, x, want)
	}
}

// Promise 24.3 and W12: bits, reckoned elsewhere: a ledger and its curve, from day to day.
func TestWorthKnown(t *testing.T) {
	const b = 45290
	l := []api.Flow{pay(b+1000, 4.35), pay(b+20, -1234.56), pay(b+2999, 100.1), pay(b+91, 0.07), pay(b+550, -33.3), pay(b, 7.7), pay(b+91, 1e17), pay(b+401, 250.25), pay(b+1299, -1e-3), pay(b+91, -1e17), pay(b+3000, 1e3), f(b+7, 1e9, 2)}
	x := made(t, l, 1, b)
	for _, at := range []struct {
		n    int
		cash float64
		want [4]float64 // kind by kind
	}{
		{0, 0, [4]float64{-0x1.d132ffd1dcd6dp+7, -0x1.e54f094e21465p+7, -0x1.e53a56a4e087p+7, -0x1.e546f0a01fe13p+7}},
		{1, 0x1.ecccccccccccdp+2, [4]float64{-0x1.d132ffd1dcd6dp+7, -0x1.e56135aee0e51p+7, -0x1.e54e7eadd7362p+7, -0x1.e5593aa574b58p+7}},
		{21, -0x1.32b70a3d70a3dp+10, [4]float64{-0x1.d132ffd1dcd6dp+7, -0x1.e673e3c94cfbep+7, -0x1.e662a93c49761p+7, -0x1.e66d5dd00705ep+7}},
		{91, -0x1.32b70a3d70a3dp+10, [4]float64{-0x1.b73649cd2b9b8p+7, -0x1.d2ad1da0e0bb6p+7, -0x1.d2b2c6fc3c4dp+7, -0x1.d2ae1ed9f34e7p+7}},
		{92, -0x1.32b28f5c28f5cp+10, [4]float64{-0x1.b73649cd2b9b8p+7, -0x1.d26f92b6d90cep+7, -0x1.d26ff04cf3649p+7, -0x1.d26f66e4d077dp+7}},
		{500, -0x1.e8451eb851eb8p+9, [4]float64{-0x1.68fc7a46c918bp+7, -0x1.7b70197e53012p+7, -0x1.7c18d83e5996fp+7, -0x1.7b6cf60f5537p+7}},
		{551, -0x1.f8eb851eb851ep+9, [4]float64{-0x1.5997682e632b8p+7, -0x1.7615e26ae0c18p+7, -0x1.76395777bba34p+7, -0x1.7614ad74075c6p+7}},
		{1000, -0x1.f8eb851eb851ep+9, [4]float64{-0x1.def146c11d195p+6, -0x1.ea1bd5cbd4382p+6, -0x1.e472fdda462fcp+6, -0x1.e901dab9364b1p+6}},
		{1300, -0x1.f6bed916872bp+9, [4]float64{-0x1.0b3c349114c24p+6, -0x1.4bd42f12fbaddp+6, -0x1.4bd42f12fbaddp+6, -0x1.4bd503d677dcfp+6}},
		{2500, -0x1.f6bed916872bp+9, [4]float64{-0x1.0b3c349114c24p+6, 0x1.1d67160b7d271p+5, 0x1.321766f10da12p+5, 0x1.38dd8e779ba65p+5}},
	} {
		if _, e := x.Pass(b + at.n); e != api.OK {
			t.Fatalf("Pass(%d) is %v", b+at.n, e)
		}
		checkCash(t, x, value(at.cash))
		for i, kind := range kinds() {
			c, e := life.Roll(market(kind), b+at.n)
			if e != api.OK {
				t.Fatalf("Roll to %d is %v", b+at.n, e)
			}
			checkWorth(t, x, c, value(at.want[i]))
		}
	}
}

// Promise 24.3: the cash and what is left, in one sum that is rounded once.
func TestWorth(t *testing.T) {
	c := api.Curve{Base: 10, Kind: api.IFlat, Days: []int{20, 30}, Factors: []float64{0.5, 0.25}}
	for _, x := range []struct {
		paid, left []float64 // what is left comes on the days 10, 20 and 30
		want       answer
	}{
		{nil, nil, value(0)},
		{[]float64{minus}, []float64{minus}, value(0)},
		{[]float64{3}, nil, value(3)},
		{nil, []float64{3, 3, 3}, value(5.25)},
		{[]float64{4}, []float64{3, -3, -3}, value(4.75)},
		{[]float64{1}, []float64{0x1p-53, 0x1p-105}, value(1 + 0x1p-52)}, // neither part is rounded by itself
		{[]float64{1, 0x1p-53}, []float64{0, 0, least}, value(1 + 0x1p-52)},
		{[]float64{1, 0x1p-53}, []float64{0, 0, -least}, value(1)},
		{[]float64{1, 0x1p-53}, nil, value(1)},
		{[]float64{1e17, 1}, []float64{-1e17}, value(1)},
		{[]float64{5}, []float64{-5}, value(0)},
		{nil, []float64{0, 0, -least}, value(minus)}, // a sum that is not 0, but rounds to it
		{nil, []float64{0, 0, 2 * least}, value(0)},
		{[]float64{greatest, greatest}, []float64{-greatest}, value(greatest)},
		{[]float64{greatest, 0x1p970}, []float64{-least}, value(greatest)},
		{[]float64{greatest}, []float64{greatest}, wrong(api.ErrValue)},
		{[]float64{greatest, greatest}, nil, wrong(api.ErrValue)},
		{nil, []float64{-greatest, -greatest}, wrong(api.ErrValue)},
		{[]float64{greatest}, []float64{0x1p970}, wrong(api.ErrValue)},
		{[]float64{-greatest, -greatest, greatest, 1}, []float64{greatest, 0, 4}, value(2)},
	} {
		var l []api.Flow
		for i, amount := range x.paid {
			l = append(l, pay(i, amount))
		}
		for i, amount := range x.left {
			l = append(l, pay(10+10*i, amount))
		}
		a := made(t, l, 1, 0)
		if _, e := a.Pass(10); e != api.OK {
			t.Fatalf("Pass is %v", e)
		}
		checkWorth(t, a, c, x.want)
		slices.Reverse(l)
		a = made(t, l, 1, 0)
		if _, e := a.Pass(10); e != api.OK {
			t.Fatalf("Pass is %v", e)
		}
		checkWorth(t, a, c, x.want)
	}
}

// Promise 24.3: curve.Check's error, then the base, then what is left beyond the curve, then the sum.
func TestWorthRefused(t *testing.T) {
	for _, day := range []int{50, 51} {
		x := made(t, []api.Flow{pay(80, greatest), pay(200, greatest)}, 1, day)
		for _, bad := range badCurves(50) {
			checkWorth(t, x, bad.c, wrong(bad.e))
		}
	}
	for _, kind := range kinds() {
		from := func(base, end int) api.Curve {
			return api.Curve{Base: base, Kind: kind, Days: []int{end}, Factors: []float64{1}}
		}
		x := made(t, []api.Flow{pay(70, 3), pay(60, 2), f(90, 7, 2)}, 1, 50)
		for _, base := range []int{0, 49, 51, 60} {
			checkWorth(t, x, from(base, 100), wrong(api.ErrRange))
			checkWorth(t, made(t, nil, 1, 50), from(base, 100), wrong(api.ErrRange))
		}
		checkWorth(t, x, from(50, 69), wrong(api.ErrRange))
		checkWorth(t, x, from(50, 70), value(5))
		checkPass(t, x, 65, []api.Flow{pay(60, 2)}, api.OK)
		checkWorth(t, x, from(50, 70), wrong(api.ErrRange))
		checkWorth(t, x, from(65, 69), wrong(api.ErrRange))
		checkWorth(t, x, from(65, 70), value(5))
		checkPass(t, x, 71, []api.Flow{pay(70, 3)}, api.OK)
		checkWorth(t, x, from(71, 72), value(5))
		// What is left beyond the curve is told ahead of a sum that is too great.
		x = made(t, []api.Flow{pay(1, greatest), pay(2, greatest), pay(70, 1)}, 1, 0)
		checkPass(t, x, 50, []api.Flow{pay(1, greatest), pay(2, greatest)}, api.OK)
		checkWorth(t, x, from(50, 69), wrong(api.ErrRange))
		checkWorth(t, x, from(50, 70), wrong(api.ErrValue))
	}
	// A ledger on the last day has no curve.
	x := made(t, []api.Flow{pay(end, 1)}, 1, end)
	checkWorth(t, x, api.Curve{Base: end - 1, Kind: api.IFlat, Days: []int{end}, Factors: []float64{1}}, wrong(api.ErrRange))
	checkWorth(t, x, api.Curve{Base: end, Kind: api.IFlat, Days: []int{end}, Factors: []float64{1}}, wrong(api.ErrNodes))
}

// Promise 24.3: as many flows and nodes as may be.
func TestWorthFull(t *testing.T) {
	state := uint64(2430)
	for _, kind := range kinds() {
		c := api.Curve{Base: 1000, Kind: kind}
		for i := range api.MaxNodes - 1 {
			c.Days, c.Factors = append(c.Days, 1001+3*i), append(c.Factors, 1/float64(i+2))
		}
		var l []api.Flow
		for range api.MaxFlows {
			l = append(l, pay(900+below(&state, last(c)-900+1), someAmount(&state)/4096))
		}
		x, p := made(t, l, 1, 0), &past{cur: 1, all: l}
		for _, n := range []int{0, 1000} {
			got, e := x.Pass(n)
			if want, f := p.Pass(n); e != f || !sameFlows(got, want) {
				t.Errorf("Pass(%d) is %d flows, %v", n, len(got), e)
			}
		}
		checkSame(t, x, p)
		checkWorth(t, x, c, told(p.Worth(c)))
	}
}

// Promises 24.1 to 24.3, 24.6 and 24.8: scattered calls and copies, each answer against the chapter's words; a call that is refused changes nothing.
func TestScattered(t *testing.T) {
	state := uint64(241)
	seen := map[string]map[api.Errno]int{"New": {}, "Add": {}, "Pass": {}}
	for range 250 {
		cur, day := 1+below(&state, 3), below(&state, 60)
		if below(&state, 12) == 0 {
			cur = notCurrencies()[below(&state, 7)]
		}
		l := someFlows(&state, below(&state, 12), day, []int{day + 9, end + 1}[below(&state, 2)])
		if below(&state, 3) == 0 {
			l = someFlows(&state, below(&state, 6), max(0, day-3), day+9)
		}
		x, e := life.New(l, cur, day)
		p, want := stepNew(l, cur, day)
		if seen["New"][e]++; e != want || (x != nil) != (e == api.OK) {
			t.Fatalf("New(%v, %d, %d) is %v, %v, not %v", l, cur, day, x, e, want)
		}
		if e != api.OK {
			continue
		}
		old, kept := x.Copy(), p.copied()
		for i := range 30 {
			scatteredCall(t, &state, x, p, seen)
			checkSame(t, x, p)
			if i%7 == 3 {
				checkSame(t, old, kept)
				old, kept = x.Copy(), p.copied()
			}
			if i%7 == 5 {
				scatteredCall(t, &state, old, kept, seen)
			}
		}
		checkSame(t, old, kept)
	}
	for name, least := range map[string]map[api.Errno]int{"New": {api.OK: 150, api.ErrCur: 9, api.ErrPast: 9}, "Add": {api.OK: 500, api.ErrPast: 200, api.ErrRange: 30, api.ErrValue: 30, api.ErrCur: 30}, "Pass": {api.OK: 500, api.ErrPast: 200, api.ErrRange: 50}} {
		for e, n := range least {
			if seen[name][e] < n {
				t.Errorf("%s tells %v only %d times", name, e, seen[name][e])
			}
		}
	}
}

// scatteredCall makes one scattered change of both, and holds what they answer against each other.
func scatteredCall(t *testing.T, state *uint64, x *life.Ledger, p *past, seen map[string]map[api.Errno]int) {
	t.Helper()
	if below(state, 2) == 0 {
		n := min(end, p.day+[]int{0, 1, 3, 20, 20000}[below(state, 5)])
		switch below(state, 6) {
		case 0:
			n = p.day - 1 - below(state, 5)
		case 1:
			n = notDays()[below(state, 6)]
		}
		got, e := x.Pass(n)
		want, f := p.Pass(n)
		if seen["Pass"][e]++; e != f || !sameFlows(got, want) {
			t.Fatalf("Pass(%d) is %v, %v, not %v, %v", n, got, e, want, f)
		}
		return
	}
	a := p.day
	if below(state, 3) == 0 {
		a = max(0, a-2)
	}
	l := someFlows(state, below(state, 9), a, min(end+1, a+[]int{3, 30, 30000}[below(state, 3)]))
	if below(state, 5) == 0 && len(l) > 0 {
		bad := &l[below(state, len(l))]
		switch below(state, 3) {
		case 0:
			bad.Day = notDays()[below(state, 6)]
		case 1:
			bad.Amount = notNumbers()[below(state, 3)]
		case 2:
			bad.Cur = notCurrencies()[below(state, 7)]
		}
	}
	e, f := x.Add(l), p.Add(l)
	if seen["Add"][e]++; e != f {
		t.Fatalf("Add(%v) at %d is %v, not %v", l, p.day, e, f)
	}
}

// Promises 24.5 and 24.6 (W12): passing by steps is passing at once; each flow is paid once, and what was paid and what is left are together all.
func TestSteps(t *testing.T) {
	state := uint64(245)
	for range 600 {
		l := someFlows(&state, below(&state, 40), 100, 100+[]int{5, 60, 100000}[below(&state, 3)])
		cur, to := 1+below(&state, 3), 100+below(&state, 80)
		if below(&state, 4) == 0 {
			to = end
		}
		once, steps := made(t, l, cur, 100), made(t, l, cur, 100)
		whole, e := once.Pass(to)
		if e != api.OK {
			t.Fatalf("Pass(%d) is %v", to, e)
		}
		var paid []api.Flow
		for n := 100; ; n = min(to, n+below(&state, 30)*(1+(to-n)/300)) {
			before := steps.Day()
			step, e := steps.Pass(n)
			if e != api.OK || !sameFlows(step, between(whole, before, n)) {
				t.Fatalf("Pass(%d) is %v, %v", n, step, e)
			}
			if again, e := steps.Pass(n); e != api.OK || len(again) != 0 {
				t.Errorf("passing to its own day pays %v, %v", again, e)
			}
			paid = append(paid, step...)
			if n == to {
				break
			}
		}
		checkSame(t, steps, once)
		checkSame(t, steps, &past{cur, to, inCur(l, cur)})
		if all := inCur(l, cur); !sameSet(slices.Concat(paid, steps.Left()), all) || !sameSet(slices.Concat(whole, once.Left()), all) {
			t.Errorf("of %v %v was paid and %v is left", all, paid, steps.Left())
		}
	}
}

// sameSet tells whether both lists have the same flows, each as often.
func sameSet(a, b []api.Flow) bool {
	count := map[[3]uint64]int{}
	key := func(x api.Flow) [3]uint64 {
		return [3]uint64{uint64(x.Day), math.Float64bits(x.Amount), uint64(x.Cur)}
	}
	for _, x := range a {
		count[key(x)]++
	}
	for _, x := range b {
		count[key(x)]--
	}
	for _, n := range count {
		if n != 0 {
			return false
		}
	}
	return len(a) == len(b)
}

// Promise 24.3: a copy is the same, and neither knows what is done to the other.
func TestCopy(t *testing.T) {
	x := made(t, []api.Flow{pay(30, 1), pay(10, 2), pay(40, 3)}, 1, 5)
	checkAdd(t, x, []api.Flow{pay(20, 4), pay(9, 0.5)}, api.OK)
	checkPass(t, x, 10, []api.Flow{pay(9, 0.5)}, api.OK)
	c := x.Copy()
	checkSame(t, c, x)
	if c == x {
		t.Error("Copy is the ledger itself")
	}
	checkPass(t, x, 35, []api.Flow{pay(30, 1), pay(10, 2), pay(20, 4)}, api.OK)
	checkSame(t, c, &past{1, 10, []api.Flow{pay(9, 0.5), pay(30, 1), pay(10, 2), pay(40, 3), pay(20, 4)}})
	d := c.Copy()
	checkAdd(t, c, []api.Flow{pay(11, 10)}, api.OK)
	checkAdd(t, d, []api.Flow{pay(12, 20), pay(13, 30)}, api.OK)
	checkAdd(t, x, []api.Flow{pay(50, 40)}, api.OK)
	checkLeft(t, c, pay(30, 1), pay(10, 2), pay(40, 3), pay(20, 4), pay(11, 10))
	checkLeft(t, d, pay(30, 1), pay(10, 2), pay(40, 3), pay(20, 4), pay(12, 20), pay(13, 30))
	checkLeft(t, x, pay(40, 3), pay(50, 40))
	checkPass(t, c, 45, []api.Flow{pay(30, 1), pay(10, 2), pay(40, 3), pay(20, 4), pay(11, 10)}, api.OK)
	checkCash(t, c, value(20.5))
	checkCash(t, d, value(0.5))
	checkCash(t, x, value(7.5))
	if x.Day() != 35 || c.Day() != 45 || d.Day() != 10 {
		t.Errorf("the days are %d, %d and %d", x.Day(), c.Day(), d.Day())
	}
	// Of a ledger at which all was paid, and of one that never had a flow.
	for _, l := range [][]api.Flow{nil, {pay(5, 1)}} {
		a := made(t, l, 1, 5)
		if _, e := a.Pass(6); e != api.OK {
			t.Fatal(e)
		}
		b := a.Copy()
		checkSame(t, b, a)
		checkAdd(t, a, []api.Flow{pay(7, 1)}, api.OK)
		checkAdd(t, b, []api.Flow{pay(8, 2)}, api.OK)
		checkLeft(t, a, pay(7, 1))
		checkLeft(t, b, pay(8, 2))
	}
}

// wipe writes over a list, its spare room too.
func wipe(l []api.Flow) {
	l = l[:cap(l)]
	for i := range l {
		l[i] = f(99, 99, 99)
	}
}

// Promise 24.8 and DOC.md, rule 3: what is handed in stays as it was, its spare room too, and is not kept; what is told is new memory.
func TestKeepsNothing(t *testing.T) {
	spare := []api.Flow{pay(30, 1), f(9, 3, 2), pay(10, 2), pay(70, 77), pay(71, 78)}
	before := slices.Clone(spare)
	x := made(t, spare[:3], 1, 5)
	checkAdd(t, x, spare[:3], api.OK)
	checkAdd(t, x, []api.Flow{pay(6, 5)}, api.OK)
	checkPass(t, x, 7, []api.Flow{pay(6, 5)}, api.OK)
	if !slices.Equal(spare, before) {
		t.Fatalf("what was handed in is %v, not %v", spare, before)
	}
	wipe(spare)
	want := &past{1, 7, []api.Flow{pay(6, 5), pay(30, 1), pay(10, 2), pay(30, 1), pay(10, 2)}}
	checkSame(t, x, want)
	for n := 7; n < 40; n++ {
		wipe(x.Left())
		checkSame(t, x, want)
		left := x.Left()
		paid, e := x.Pass(n)
		kept := slices.Clone(paid)
		if again, f := want.Pass(n); e != f || !sameFlows(paid, again) {
			t.Fatalf("Pass(%d) is %v, %v", n, paid, e)
		}
		wipe(left)
		checkSame(t, x, want)
		if !sameFlows(paid, kept) {
			t.Errorf("what was told as paid is %v, not %v", paid, kept)
		}
		left = x.Left()
		wipe(paid)
		checkSame(t, x, want)
		if !sameFlows(left, want.Left()) {
			t.Errorf("what was told as left is %v, not %v", left, want.Left())
		}
		if n%9 == 0 {
			told, more := x.Left(), []api.Flow{pay(n, 1), pay(n+20, 2)}
			ahead := slices.Clone(told)
			checkAdd(t, x, more, want.Add(more))
			wipe(more)
			checkSame(t, x, want)
			if !sameFlows(told, ahead) {
				t.Errorf("what was told as left is %v, not %v", told, ahead)
			}
		}
	}
	checkAdd(t, x, x.Left(), want.Add(want.Left()))
	checkSame(t, x, want)
}

// Promise 24.8: a curve that is handed in stays as it was, its spare room too.
func TestWorthKeepsCurve(t *testing.T) {
	days, factors := []int{100, 200, 7, 8}, []float64{0.5, 0.25, 7, 8}
	x := made(t, []api.Flow{pay(150, 8)}, 1, 50)
	for _, kind := range kinds() {
		for _, base := range []int{50, 51} {
			x.Worth(api.Curve{Base: base, Kind: kind, Days: days[:2], Factors: factors[:2]})
			if !slices.Equal(days, []int{100, 200, 7, 8}) || !slices.Equal(factors, []float64{0.5, 0.25, 7, 8}) {
				t.Fatalf("the lists are %v and %v", days, factors)
			}
		}
	}
}
