package book_test

import (
	"fmt"
	"math"
	"slices"
	"testing"

	"tenor/api"
	"tenor/book"
	"tenor/price"
	"tenor/risk"
)

// answer is a number that a call tells, or its error.
type answer struct {
	x float64
	e api.Errno
}

func told(x float64, e api.Errno) answer { return answer{x, e} }

func value(x float64) answer { return answer{x, api.OK} }

func wrong(e api.Errno) answer { return answer{e: e} }

func (a answer) is(b answer) bool { return a.e == b.e && bits(a.x) == bits(b.x) }

// checkOne, checkValue and checkTotal hold one answer each.
func checkOne(t *testing.T, b *book.Book, id, cur int, want answer) {
	t.Helper()
	if got := told(b.One(id, cur)); !got.is(want) {
		t.Errorf("One(%d, %d) is %x, %v, not %x, %v", id, cur, got.x, got.e, want.x, want.e)
	}
}

func checkValue(t *testing.T, b *book.Book, cur int, want answer) {
	t.Helper()
	if got := told(b.Value(cur)); !got.is(want) {
		t.Errorf("Value(%d) is %x, %v, not %x, %v", cur, got.x, got.e, want.x, want.e)
	}
}

func checkTotal(t *testing.T, b *book.Book, want answer) {
	t.Helper()
	if got := told(b.Total()); !got.is(want) {
		t.Errorf("Total is %x, %v, not %x, %v", got.x, got.e, want.x, want.e)
	}
}

// checkReport and checkLadder hold one list each.
func checkReport(t *testing.T, b *book.Book, cur int, want []api.Line, e api.Errno) {
	t.Helper()
	got, f := b.Report(cur)
	same := slices.EqualFunc(got, want, func(x, y api.Line) bool {
		return x.ID == y.ID && x.Flows == y.Flows && math.Float32bits(x.Value) == math.Float32bits(y.Value)
	})
	if !same || f != e {
		t.Errorf("Report(%d) is %v, %v, not %v, %v", cur, got, f, want, e)
	}
}

func checkLadder(t *testing.T, b *book.Book, cur int, h float64, want []float64, e api.Errno) {
	t.Helper()
	if got, f := b.Ladder(cur, h); allBits(got) != allBits(want) || f != e {
		t.Errorf("Ladder(%d, %x) is %x, %v, not %x, %v", cur, h, got, f, want, e)
	}
}

// known is a book of three currencies whose answers were reckoned elsewhere.
func known(t *testing.T) *book.Book {
	t.Helper()
	b := made(t, map[int]api.Curve{
		1: {Base: 45656, Kind: api.ILinear, Days: []int{46021, 46751, 47482}, Factors: []float64{0.96, 0.9, 0.83}},
		2: {Base: 45700, Kind: api.ICubic, Days: []int{45900, 46200, 46800, 47000}, Factors: []float64{0.99, 0.98, 0.93, 0.95}},
		3: {Base: 45655, Kind: api.ILog, Days: []int{46000, 46020, 47000}, Factors: []float64{0.97, 0.975, 0.88}},
	}, map[int]string{
		1:       "both pay 1000 1 2026-03-01 give pay 900 2 2027-06-15",
		3:       "fixed 100 0.05 act365 2025-01-15 2029-01-15 6 1",
		5:       "pay 1e6 1 2024-01-01",
		12:      "scale 1.1 both pay 7 3 2026-06-30 fixed 50 0.07 euro 2025-05-05 2027-05-05 3 3",
		77:      "zero",
		900:     "repeat 12 1 pay 3.3 2 2025-02-28",
		1000000: "fixed -1000 0.0425 act360 2025-03-31 2026-11-30 2 2",
	})
	for cur, x := range map[int]float64{2: 0.9, 3: 1.27} {
		if e := b.Rate(cur, x); e != api.OK {
			t.Fatalf("Rate is %v", e)
		}
	}
	return b
}

// Promises 20.3 to 20.5: bits, reckoned elsewhere.
func TestKnown(t *testing.T) {
	b := known(t)
	ones := []map[int]float64{1: {1: 0x1.dd9349a4d2693p+9, 3: 0x1.26e1c3366907ap+4}, 2: {1: -0x1.a99d0ed557d47p+9, 900: 0x1.3a1d7463c65b5p+5, 1000000: -0x1.1abc6b92d495ep+6}, 3: {12: 0x1.d73c058dd53d5p+3}}
	values := []float64{1: 0x1.e6ca57be85b17p+9, 2: -0x1.b952c50176018p+9, 3: 0x1.d73c058dd53d5p+3}
	ladders := [][]float64{
		1: {-0x1.1b3a31040f040p+3, -0x1.3346002fcc800p+1, -0x1.5044cbb790000p-4},
		2: {-0x1.2f069283a9e00p+0, 0x1.85df5aa315900p+2, 0x1.fcfd27a0b0f40p+3, -0x1.6ba2bdf738880p+2},
		3: {-0x1.ba1fbbb3c6800p-7, -0x1.99236f3e97080p-4, -0x1.a6fbff03b4880p-4},
	}
	reports := [][]api.Line{
		1: {{ID: 1, Flows: 2, Value: 0x1.dd934ap+9}, {ID: 3, Flows: 8, Value: 0x1.26e1c4p+4}, {ID: 5, Flows: 1}, {ID: 12, Flows: 9}, {ID: 77}, {ID: 900, Flows: 12}, {ID: 1000000, Flows: 10}},
		2: {{ID: 1, Flows: 2, Value: -0x1.a99d0ep+9}, {ID: 3, Flows: 8}, {ID: 5, Flows: 1}, {ID: 12, Flows: 9}, {ID: 77}, {ID: 900, Flows: 12, Value: 0x1.3a1d74p+5}, {ID: 1000000, Flows: 10, Value: -0x1.1abc6cp+6}},
		3: {{ID: 1, Flows: 2}, {ID: 3, Flows: 8}, {ID: 5, Flows: 1}, {ID: 12, Flows: 9, Value: 0x1.d73c06p+3}, {ID: 77}, {ID: 900, Flows: 12}, {ID: 1000000, Flows: 10}},
	}
	for cur := 1; cur <= 3; cur++ {
		for _, id := range b.List() {
			checkOne(t, b, id, cur, value(ones[cur][id]))
		}
		checkValue(t, b, cur, value(values[cur]))
		checkLadder(t, b, cur, 0.01, ladders[cur], api.OK)
		checkReport(t, b, cur, reports[cur], api.OK)
	}
	checkTotal(t, b, value(0x1.8bcd48eaceb79p+7))
}

// Promises 20.3 to 20.5: the chapter's examples.
func TestExamples(t *testing.T) {
	b := made(t, map[int]api.Curve{1: halving()}, map[int]string{7: "pay 4 1 2030-01-01"})
	checkValue(t, b, 1, value(2))
	checkTotal(t, b, value(2))
	checkAdd(t, b, 7, "zero", api.ErrSame, 0)
	checkAdd(t, b, 0, "zero", api.ErrArg, 0)
	checkAdd(t, b, 8, "pay", api.ErrWord, 3)
	checkAdd(t, b, 8, "pay 1 2 2030-01-01", api.OK, 0)
	checkValue(t, b, 1, value(2))
	checkTotal(t, b, wrong(api.ErrCurve))
	checkValue(t, b, 9, wrong(api.ErrCur))
	if e, again := b.Drop(8), b.Drop(8); e != api.OK || again != api.ErrDeal {
		t.Errorf("Drop is %v, then %v", e, again)
	}
	checkList(t, b, 7)
	if e := b.Rate(1, 0.5); e != api.OK {
		t.Errorf("Rate is %v", e)
	}
	checkTotal(t, b, value(1))
	checkReport(t, b, 1, []api.Line{{ID: 7, Flows: 1, Value: 2}}, api.OK)
}

// Promises 20.3 to 20.5: a book without deals, with a curve and without.
func TestNothing(t *testing.T) {
	b := made(t, map[int]api.Curve{1: halving()}, nil)
	b.Rate(2, greatest)
	checkValue(t, b, 1, value(0))
	checkValue(t, b, 2, wrong(api.ErrCurve))
	checkReport(t, b, 1, nil, api.OK)
	checkReport(t, b, 2, nil, api.ErrCurve)
	checkLadder(t, b, 1, 0.01, []float64{0}, api.OK)
	checkLadder(t, b, 2, 0.01, nil, api.ErrCurve)
	checkLadder(t, b, 1, nan, nil, api.ErrValue)
	checkLadder(t, b, 2, nan, nil, api.ErrCurve)
	checkTotal(t, b, value(0))
	checkTotal(t, book.New(), value(0))
}

// Promises 20.3 and 20.5: which error is told first: the deal, the currency, its curve, then what the flows tell.
func TestAsked(t *testing.T) {
	b := made(t, map[int]api.Curve{1: halving()}, map[int]string{7: "both pay 4 1 2030-01-01 pay 4 2 2030-01-02", 8: "pay 1 3 2031-01-01"})
	checkOne(t, b, 7, 1, value(2))
	checkOne(t, b, 8, 1, value(0))
	for _, id := range append(strange(), 1, 6) {
		for cur := range 10 {
			checkOne(t, b, id, cur, wrong(api.ErrDeal))
		}
	}
	for _, cur := range noCurs() {
		checkOne(t, b, 7, cur, wrong(api.ErrCur))
		checkValue(t, b, cur, wrong(api.ErrCur))
		checkReport(t, b, cur, nil, api.ErrCur)
		for _, h := range []float64{0.01, nan} {
			checkLadder(t, b, cur, h, nil, api.ErrCur)
		}
	}
	for cur := 2; cur <= 8; cur++ {
		checkOne(t, b, 7, cur, wrong(api.ErrCurve))
		checkValue(t, b, cur, wrong(api.ErrCurve))
		checkReport(t, b, cur, nil, api.ErrCurve)
		for _, h := range []float64{0.01, nan} {
			checkLadder(t, b, cur, h, nil, api.ErrCurve)
		}
	}
	// A day behind the curve's last one, asked in its currency alone.
	for cur, want := range map[int]answer{1: value(2), 2: wrong(api.ErrRange), 3: value(0), 4: value(0)} {
		b.Curve(cur, halving())
		checkOne(t, b, 7, cur, want)
	}
	checkOne(t, b, 8, 3, wrong(api.ErrRange))
	checkValue(t, b, 3, wrong(api.ErrRange))
	checkReport(t, b, 3, nil, api.ErrRange)
	checkLadder(t, b, 3, nan, nil, api.ErrRange)
	checkValue(t, b, 1, value(2))
	checkReport(t, b, 1, []api.Line{{ID: 7, Flows: 2, Value: 2}, {ID: 8, Flows: 1}}, api.OK)
	checkTotal(t, b, wrong(api.ErrRange))
}

// Promise 20.3: the sum over deals is exact, and rounded once.
func TestValueExact(t *testing.T) {
	for _, x := range []struct {
		amounts []float64
		want    answer
	}{
		{[]float64{1, 0x1p-60, -1}, value(0x1p-60)},
		{[]float64{1, 0x1p-53, 0x1p-53}, value(1 + 0x1p-52)},
		{[]float64{1, 0x1p-53}, value(1)},
		{[]float64{1, 0x1p-53, least}, value(1 + 0x1p-52)},
		{[]float64{greatest, greatest, -greatest}, value(greatest)},
		{[]float64{greatest, greatest}, wrong(api.ErrValue)},
		{[]float64{-greatest, -0x1p970}, wrong(api.ErrValue)},
		{[]float64{-greatest, -0x1p969}, value(-greatest)},
		{[]float64{1, 2, -3}, value(0)},
		{[]float64{minus, minus}, value(0)},
		{[]float64{0.1, 0.2, 0.3}, value(0x1.3333333333333p-1)},
	} {
		apart, together := book.New(), book.New()
		apart.Curve(1, even())
		together.Curve(1, even())
		for i, a := range x.amounts {
			add(t, apart, 10+i, pays(1, a))
		}
		add(t, together, 10, pays(1, x.amounts...))
		checkValue(t, apart, 1, x.want)
		checkValue(t, together, 1, x.want)
		checkOne(t, together, 10, 1, x.want)
		checkTotal(t, apart, x.want)
		checkTotal(t, together, x.want)
	}
	// What is not 0 but rounds to it keeps its sign; in the total it is 0.
	b := made(t, map[int]api.Curve{1: halving()}, map[int]string{1: pays(1, -least)})
	checkOne(t, b, 1, 1, value(minus))
	checkValue(t, b, 1, value(minus))
	checkReport(t, b, 1, []api.Line{{ID: 1, Flows: 1, Value: float32(minus)}}, api.OK)
	checkTotal(t, b, value(0))
}

// Promise 20.3: flows ahead of the base are gone, those of other currencies are not looked at, and a deal of each currency tells its own.
func TestValueCounts(t *testing.T) {
	b := book.New()
	want := 0.0
	for cur := 1; cur <= 8; cur++ {
		c := halving()
		c.Factors[0] = 1 / float64(int(1)<<cur)
		b.Curve(cur, c)
		add(t, b, 100-cur, pays(cur, float64(cur)))
		add(t, b, 200-cur, fmt.Sprintf("pay 1e9 %d 2024-12-31", cur))
		b.Rate(cur, float64(int(1)<<cur)*2)
		want += 2 * float64(cur)
	}
	for cur := 1; cur <= 8; cur++ {
		own := float64(cur) / float64(int(1)<<cur)
		checkValue(t, b, cur, value(own))
		for other := 1; other <= 8; other++ {
			if other == cur {
				checkOne(t, b, 100-other, cur, value(own))
			} else {
				checkOne(t, b, 100-other, cur, value(0))
			}
			checkOne(t, b, 200-other, cur, value(0))
		}
	}
	checkTotal(t, b, value(want))
}

// Promises 20.3 and 20.4: of several errors the first.
func TestFirstError(t *testing.T) {
	late, great := "pay 1 1 2031-01-01", "scale 1 "+pays(1, greatest)
	curves := map[int]api.Curve{1: {Base: from, Kind: api.IFlat, Days: []int{to}, Factors: []float64{2}}}
	// The sum is asked behind all deals.
	for _, deals := range []map[int]string{{1: late, 2: great}, {1: great, 2: late}} {
		b := made(t, curves, deals)
		checkValue(t, b, 1, wrong(api.ErrRange))
		checkTotal(t, b, wrong(api.ErrRange))
		checkLadder(t, b, 1, nan, nil, api.ErrRange)
	}
	// The report's deals by rising number.
	checkReport(t, made(t, curves, map[int]string{1: late, 2: great}), 1, nil, api.ErrRange)
	checkReport(t, made(t, curves, map[int]string{1: great, 2: late}), 1, nil, api.ErrValue)
	checkReport(t, made(t, curves, map[int]string{9: great, 10: late}), 1, nil, api.ErrValue)
	checkReport(t, made(t, curves, map[int]string{9: late, 10: great}), 1, nil, api.ErrRange)
	checkReport(t, made(t, curves, map[int]string{1: pays(1, 0x1p127), 2: late}), 1, nil, api.ErrValue)
	b := made(t, curves, map[int]string{1: great})
	checkOne(t, b, 1, 1, wrong(api.ErrValue))
	checkValue(t, b, 1, wrong(api.ErrValue))
	checkTotal(t, b, wrong(api.ErrValue))
	checkLadder(t, b, 1, 0, nil, api.ErrValue)
	// Two that are each too great are together a number.
	add(t, b, 2, "give "+great)
	checkValue(t, b, 1, value(0))
	checkTotal(t, b, value(0))
	checkReport(t, b, 1, nil, api.ErrValue)
	checkLadder(t, b, 1, 0, []float64{0}, api.OK)
}

// Promise 20.4: the currencies by their numbers, of which one without a curve is an error where some flow has it, be it ahead of the base or 0.
func TestTotalErrors(t *testing.T) {
	late := func(cur string) string { return "pay 1 " + cur + " 2031-01-01" }
	for _, x := range []struct {
		curs  []int
		deals map[int]string
		want  answer
	}{
		{[]int{1}, map[int]string{1: late("1"), 2: late("2")}, wrong(api.ErrRange)},
		{[]int{1}, map[int]string{1: late("2"), 2: late("1")}, wrong(api.ErrRange)},
		{[]int{2}, map[int]string{1: late("1"), 2: late("2")}, wrong(api.ErrCurve)},
		{[]int{2}, map[int]string{1: late("2"), 2: late("1")}, wrong(api.ErrCurve)},
		{[]int{1, 2}, map[int]string{1: pays(1, greatest, greatest, greatest), 2: late("2")}, wrong(api.ErrValue)},
		{[]int{1, 2}, map[int]string{1: pays(2, greatest, greatest, greatest), 2: late("1")}, wrong(api.ErrRange)},
		{[]int{1}, map[int]string{1: "both " + pays(1, 4) + " pay 0 2 2030-01-01"}, wrong(api.ErrCurve)},
		{[]int{1}, map[int]string{1: "both " + pays(1, 4) + " pay 1 8 1900-01-01"}, wrong(api.ErrCurve)},
		{[]int{1}, map[int]string{1: "both " + pays(1, 4) + " scale 0 pay 1 2 2030-01-01"}, wrong(api.ErrCurve)},
		{[]int{1}, map[int]string{1: "both " + pays(1, 4) + " window 2020-01-01 2021-01-01 pay 1 2 2030-01-01"}, value(2)},
		{[]int{1, 2, 3, 8}, map[int]string{1: pays(1, 4)}, value(2)},
		{[]int{8}, map[int]string{1: pays(8, 4)}, value(2)},
		{nil, map[int]string{1: "zero", 2: "both zero zero"}, value(0)},
		{nil, map[int]string{1: "pay 1 8 1900-01-01"}, wrong(api.ErrCurve)},
	} {
		b := book.New()
		for _, cur := range x.curs {
			b.Curve(cur, halving())
		}
		for id, s := range x.deals {
			add(t, b, id, s)
		}
		checkTotal(t, b, x.want)
	}
}

// Promise 20.4: each Value is rounded, the products and their sum are not.
func TestTotalExact(t *testing.T) {
	type line struct {
		rate    float64
		amounts []float64
	}
	for _, x := range []struct {
		lines []line
		want  answer
	}{
		{[]line{{2, []float64{greatest}}, {2, []float64{-greatest}}, {1, []float64{7}}}, value(7)},
		{[]line{{2, []float64{greatest}}}, wrong(api.ErrValue)},
		{[]line{{2, []float64{-greatest}}}, wrong(api.ErrValue)},
		{[]line{{1, []float64{1, 0x1p-60}}, {1, []float64{-1}}}, value(0)},
		{[]line{{1 + 0x1p-52, []float64{1 + 0x1p-52}}, {1, []float64{-1 - 0x1p-51}}}, value(0x1p-104)},
		{[]line{{0x1p-600, []float64{0x1p-600}}, {1, []float64{1}}, {1, []float64{0x1p-53}}}, value(1 + 0x1p-52)},
		{[]line{{least, []float64{-0.25}}}, value(minus)},
		{[]line{{least, []float64{-0.5}}, {least, []float64{-0.5}}}, value(-least)},
		{[]line{{0.1, []float64{3}}, {0.1, []float64{-2}}, {0.1, []float64{-1}}}, value(0)},
	} {
		b := book.New()
		for i, l := range x.lines {
			b.Curve(i+3, even())
			b.Rate(i+3, l.rate)
			for k, a := range l.amounts {
				add(t, b, 10*(9-i)+k+1, pays(i+3, a))
			}
		}
		checkTotal(t, b, x.want)
	}
}

// Promise 20.5: values as binary32, at the ends of what these can be.
func TestReportSingle(t *testing.T) {
	for _, x := range []struct {
		amount float64
		want   float32
		e      api.Errno
	}{
		{0.1, 0.1, api.OK}, {-0.1, -0.1, api.OK}, {1 + 0x1p-24, 1, api.OK}, {1 + 0x1p-24 + 0x1p-52, 1 + 0x1p-23, api.OK}, {1 + 0x3p-24, 1 + 0x1p-22, api.OK},
		{math.MaxFloat32, math.MaxFloat32, api.OK}, {0x1.fffffefffffffp127, math.MaxFloat32, api.OK}, {0x1.ffffffp127, 0, api.ErrValue}, {-0x1.ffffffp127, 0, api.ErrValue}, {1e39, 0, api.ErrValue}, {-greatest, 0, api.ErrValue},
		{0x1p-149, 0x1p-149, api.OK}, {0x1p-150, 0, api.OK}, {-0x1p-150, float32(minus), api.OK}, {0x1.0000000000001p-150, 0x1p-149, api.OK}, {-least, float32(minus), api.OK},
	} {
		b := made(t, map[int]api.Curve{1: even()}, map[int]string{5: pays(1, x.amount)})
		checkOne(t, b, 5, 1, value(x.amount))
		if x.e != api.OK {
			checkReport(t, b, 1, nil, x.e)
			continue
		}
		checkReport(t, b, 1, []api.Line{{ID: 5, Flows: 1, Value: x.want}}, api.OK)
	}
}

// Promise 20.5: the ladder is that of all flows together, of all currencies, of which there may be 4,096.
func TestLadder(t *testing.T) {
	c := api.Curve{Base: 0, Kind: api.ILinear, Days: []int{60000, api.LastDay}, Factors: []float64{0.5, 0.25}}
	b := made(t, map[int]api.Curve{1: c}, map[int]string{1: "both " + months(3000, 2) + " pay 1 1 2040-01-01", 2: months(1000, 3), 3: "repeat 95 1 pay 2 1 2041-01-01"})
	l := slices.Concat(flowsOf(b, 1), flowsOf(b, 2), flowsOf(b, 3))
	want, e := risk.Ladder(l, 1, c, 0.01)
	if len(l) != 4096 || e != api.OK || len(want) != 2 || want[0] >= 0 {
		t.Fatalf("%d flows, %v, %v", len(l), want, e)
	}
	checkLadder(t, b, 1, 0.01, want, api.OK)
	checkLadder(t, b, 1, 0, []float64{0, 0}, api.OK)
	checkLadder(t, b, 1, inf, nil, api.ErrValue)
	checkLadder(t, b, 1, -1e300, nil, api.ErrValue)
	add(t, b, 9, "zero")
	checkLadder(t, b, 1, 0.01, want, api.OK)
	add(t, b, 4, "pay 1 8 2040-01-01")
	checkLadder(t, b, 1, 0.01, nil, api.ErrMany)
	checkLadder(t, b, 1, nan, nil, api.ErrMany)
	checkLadder(t, b, 2, 0.01, nil, api.ErrCurve)
	checkLadder(t, b, 9, 0.01, nil, api.ErrCur)
	// More flows than one deal may have are no bar to the other calls.
	if x := told(b.Value(1)); x.e != api.OK || !(x.x > 0) {
		t.Errorf("Value is %v", x)
	}
	// Of too many flows and one behind the curve's last day the first is told.
	b.Curve(1, halving())
	checkLadder(t, b, 1, 0.01, nil, api.ErrMany)
	b.Drop(4)
	checkLadder(t, b, 1, 0.01, nil, api.ErrRange)
}

// flowsOf is the flows of a deal that is there.
func flowsOf(b *book.Book, id int) []api.Flow {
	l, e := b.Flows(id)
	if e != api.OK {
		panic(e)
	}
	return l
}

// Promise 20.8: what a book tells is what price and risk tell of its flows, put together in any order and in any parts.
func TestParts(t *testing.T) {
	state := uint64(208)
	for range 150 {
		b := scattered(t, &state, 1+below(&state, 7))
		sum := [9]*price.Worth{}
		for cur := 1; cur <= 8; cur++ {
			c, has, _, _ := b.Get(cur)
			if !has {
				continue
			}
			sum[cur] = price.Nothing()
			ids := b.List()
			slices.Reverse(ids)
			for _, id := range ids {
				for _, x := range flowsOf(b, id) {
					w, e := price.Of([]api.Flow{x}, cur, c)
					if e != api.OK {
						sum[cur] = nil
						break
					}
					if sum[cur] != nil {
						sum[cur] = w.Plus(sum[cur])
					}
				}
			}
			switch {
			case sum[cur] == nil:
				checkValue(t, b, cur, wrong(api.ErrRange))
			case math.IsInf(sum[cur].Value(), 0):
				checkValue(t, b, cur, wrong(api.ErrValue))
			default:
				checkValue(t, b, cur, value(sum[cur].Value()))
			}
		}
	}
}

// Promise 20.8: One of the only deal with flows in a currency is Value.
func TestOnly(t *testing.T) {
	state := uint64(2080)
	held := 0
	for range 300 {
		b := book.New()
		b.Curve(2, someCurve(&state))
		b.Rate(2, 0.5+unit(&state))
		for id := range 5 {
			b.Add(10+id, someText(&state, 4, []int{1, 3, 4}))
		}
		if e, _ := b.Add(3, someText(&state, 4, []int{2})); e != api.OK {
			continue
		}
		checkValue(t, b, 2, told(b.One(3, 2)))
		held++
	}
	if held < 150 {
		t.Errorf("only %d deals", held)
	}
}
