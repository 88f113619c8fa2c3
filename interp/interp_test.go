package interp_test

import (
	"math"
	"slices"
	"testing"

	"tenor/api"
	"tenor/ieee"
	"tenor/interp"
)

// checkAt holds one answer of At.
func checkAt(t *testing.T, l api.Table, x int, want answer) {
	t.Helper()
	if got := told(interp.At(l, x)); !got.is(want) {
		t.Errorf("At(%v, %d) is %x, %v, not %x, %v", l, x, got.x, got.e, want.x, want.e)
	}
}

// checkFind holds one answer of Find.
func checkFind(t *testing.T, l api.Table, x, want int, e api.Errno) {
	t.Helper()
	if k, f := interp.Find(l, x); k != want || f != e {
		t.Errorf("Find(%v, %d) is %d, %v, not %d, %v", l, x, k, f, want, e)
	}
}

// checkSlopes holds one answer of Slopes.
func checkSlopes(t *testing.T, l api.Table, want []float64, e api.Errno) {
	t.Helper()
	if got, f := interp.Slopes(l); !sameList(got, want) || f != e {
		t.Errorf("Slopes(%v) is %x, %v, not %x, %v", l, got, f, want, e)
	}
}

// checkPoints holds one answer of Points.
func checkPoints(t *testing.T, l api.Table, k int, want []float64, e api.Errno) {
	t.Helper()
	if got, f := interp.Points(l, k); !sameList(got, want) || f != e {
		t.Errorf("Points(%v, %d) is %x, %v, not %x, %v", l, k, got, f, want, e)
	}
}

// example is the chapter's table.
func example(kind int) api.Table {
	return api.Table{Kind: kind, X: []int{0, 10, 20}, Y: []float64{0, 10, 40}}
}

// The chapter's examples.
func TestExamples(t *testing.T) {
	linear := example(api.ILinear)
	checkAt(t, linear, 5, answer{5, api.OK})
	checkAt(t, linear, 15, answer{25, api.OK})
	checkAt(t, linear, 20, answer{40, api.OK})
	checkAt(t, linear, 21, wrong(api.ErrRange))
	checkAt(t, example(api.IFlat), 9, answer{0, api.OK})
	checkAt(t, example(api.IFlat), 10, answer{10, api.OK})
	checkAt(t, example(api.ICubic), 5, answer{4.375, api.OK})
	three := 3.0
	for _, kind := range []int{api.IFlat, api.ILinear, api.ICubic} {
		l := example(kind)
		checkSlopes(t, l, []float64{1, 1.5, 3}, api.OK)
		checkPoints(t, l, 0, []float64{0, 10 / three, 5, 10}, api.OK)
		checkPoints(t, l, 1, []float64{10, 15, 30, 40}, api.OK)
		checkFind(t, l, -1, 0, api.ErrRange)
		checkFind(t, l, 10, 1, api.OK)
		checkFind(t, l, 19, 1, api.OK)
	}
}

// long is a table of n nodes.
func long(kind, n int) api.Table {
	l := api.Table{Kind: kind}
	for i := range n {
		l.X, l.Y = append(l.X, 3*i), append(l.Y, 1+float64(i))
	}
	return l
}

// Promise 10.1: tables that may be.
func TestCheckTakes(t *testing.T) {
	for _, kind := range kinds() {
		for _, l := range []api.Table{
			long(kind, 1), long(kind, 2), long(kind, 255), long(kind, 256),
			{Kind: kind, X: []int{0}, Y: []float64{least}},
			{Kind: kind, X: []int{api.LastDay}, Y: []float64{greatest}},
			{Kind: kind, X: []int{0, api.LastDay}, Y: []float64{greatest, least}},
			{Kind: kind, X: []int{0, 1}, Y: []float64{5, 5}},
		} {
			if e := interp.Check(l); e != api.OK {
				t.Errorf("kind %d, places %v: %v", kind, l.X, e)
			}
		}
		for _, y := range []float64{0, nought, -least, -1, -greatest} {
			want := api.OK
			if kind == api.ILog {
				want = api.ErrNodes
			}
			for place := range 3 {
				l := long(kind, 3)
				l.Y[place] = y
				if e := interp.Check(l); e != want {
					t.Errorf("kind %d, values %v: %v", kind, l.Y, e)
				}
			}
		}
	}
}

// refused holds that every call tells the error, whatever is asked.
func refused(t *testing.T, l api.Table, want api.Errno) {
	t.Helper()
	if e := interp.Check(l); e != want {
		t.Errorf("Check(%v) is %v, not %v", l, e, want)
	}
	checkSlopes(t, l, nil, want)
	for _, x := range []int{math.MinInt, -1, 0, 1, 3, 4, 1000, api.LastDay, api.LastDay + 1, math.MaxInt} {
		checkAt(t, l, x, wrong(want))
		checkFind(t, l, x, 0, want)
		checkPoints(t, l, x, nil, want)
	}
}

// badNodes is tables of a kind whose nodes may not be.
func badNodes(kind int) []api.Table {
	bad := []api.Table{
		{Kind: kind},
		{Kind: kind, X: []int{}, Y: []float64{}},
		{Kind: kind, X: []int{1}},
		{Kind: kind, Y: []float64{1}},
		{Kind: kind, X: []int{0, 1}, Y: []float64{1}},
		{Kind: kind, X: []int{0, 1}, Y: []float64{1, 2, 3}},
		{Kind: kind, X: []int{0, 1}, Y: nil},
		long(kind, 257), long(kind, 1000),
	}
	for _, x := range []int{math.MinInt, -1, api.LastDay + 1, math.MaxInt} {
		bad = append(bad, api.Table{Kind: kind, X: []int{x}, Y: []float64{1}})
	}
	for _, places := range [][]int{{0, 0}, {0, 0, 1}, {0, 3, 3}, {0, 3, 2}, {5, 3, 9}, {-1, 0, 1}, {-5, -3, -1}, {0, -1, 1}, {0, 1, api.LastDay + 1}, {0, 1, math.MaxInt}, {math.MinInt, 0, 1}, {math.MaxInt, 0, 1}} {
		bad = append(bad, api.Table{Kind: kind, X: places, Y: []float64{1, 2, 3}[:len(places)]})
	}
	for _, y := range []float64{nan, inf, -inf} {
		for place := range 3 {
			l := long(kind, 3)
			l.Y[place] = y
			bad = append(bad, l)
		}
		bad = append(bad, api.Table{Kind: kind, X: []int{0}, Y: []float64{y}})
	}
	// Beyond the bound by a place alone, or by a value alone.
	l := long(kind, 257)
	l.Y = l.Y[:256]
	bad = append(bad, l)
	l = long(kind, 257)
	l.X = l.X[:256]
	return append(bad, l)
}

// Promise 10.1: tables that may not be, and that a kind that is none is told first.
func TestCheckRefuses(t *testing.T) {
	for _, kind := range kinds() {
		for _, l := range badNodes(kind) {
			refused(t, l, api.ErrNodes)
		}
	}
	for _, y := range []float64{0, nought, -least, -1, -greatest} {
		for place := range 3 {
			l := long(api.ILog, 3)
			l.Y[place] = y
			refused(t, l, api.ErrNodes)
		}
	}
	for _, kind := range noKinds() {
		refused(t, long(kind, 3), api.ErrKind)
		for _, l := range badNodes(kind) {
			refused(t, l, api.ErrKind)
		}
	}
}

// Promise 10.2.
func TestFind(t *testing.T) {
	state := uint64(102)
	inside := 0
	for _, kind := range kinds() {
		for range 2000 {
			l := someTable(&state, kind)
			places := []int{math.MinInt, math.MaxInt, -1, 0, api.LastDay, api.LastDay + 1, somePlace(&state, l)}
			for _, x := range l.X {
				places = append(places, x-1, x, x+1)
			}
			for _, x := range places {
				k, e := stepFind(l, x), api.OK
				if k < 0 {
					k, e = 0, api.ErrRange
				} else {
					inside++
				}
				checkFind(t, l, x, k, e)
				if _, f := interp.At(l, x); f != e {
					t.Fatalf("At(%v, %d) tells %v, Find %v", l, x, f, e)
				}
			}
		}
	}
	if inside < 50000 {
		t.Errorf("only %d places inside", inside)
	}
	full := long(api.ILinear, 256)
	for x := range 766 {
		checkFind(t, full, x, x/3, api.OK)
	}
	checkFind(t, full, 766, 0, api.ErrRange)
}

// Promise 10.3: the bits of ILinear, ICubic and ILog, reckoned elsewhere.
func TestAtKnown(t *testing.T) {
	for _, c := range []struct {
		x    []int
		y    []float64
		want []known
	}{
		{[]int{0, 91, 182, 365, 730, 1826, 3652, 10957}, []float64{1, 0.9975, 0.9948, 0.9881, 0.9702, 0.89, 0.745, 0.31}, []known{
			{1, 0x1.fffc662cc933p-1, 0x1.fffc668f6e4e5p-1, 0x1.fffc65088f1c8p-1},
			{30, 0x1.ff93f93f93f94p-1, 0x1.ff94e44cff1ebp-1, 0x1.ff93e20b35fe1p-1},
			{90, 0x1.febbebbebbebcp-1, 0x1.febc0e6cc7886p-1, 0x1.febbea9abedb3p-1},
			{92, 0x1.feb46e59542cdp-1, 0x1.feb494efb654dp-1, 0x1.feb46d0392fa1p-1},
			{121, 0x1.fe43a6c9c8c59p-1, 0x1.fe485e343782ap-1, 0x1.fe438ba6c5f06p-1},
			{181, 0x1.fd5a508650132p-1, 0x1.fd5ab6ed59377p-1, 0x1.fd5a4f30dc264p-1},
			{243, 0x1.fc31b2b8ddbafp-1, 0x1.fc48c350ebb81p-1, 0x1.fc3109da591fcp-1},
			{486, 0x1.f6de772dd3b2bp-1, 0x1.f732f04e2f40fp-1, 0x1.f6d9b5407af5p-1},
			{1095, 0x1.e311428fbe211p-1, 0x1.e4648d7d6111ap-1, 0x1.e2ac0f828da7ap-1},
			{2434, 0x1.aef5df45ba7c1p-1, 0x1.aea004326e63p-1, 0x1.ad7b0af3e5177p-1},
			{3653, 0x1.7d68d5bb6d80bp-1, 0x1.7d67b83b7c097p-1, 0x1.7d64eb8755112p-1},
			{6087, 0x1.3333333333333p-1, 0x1.2e7bf062bac23p-1, 0x1.1cc53302b4a4p-1},
			{10956, 0x1.3d80400e43b6ep-2, 0x1.3d803ffa405a8p-2, 0x1.3d7a650b0aa31p-2},
		}},
		{[]int{3, 10, 11, 400, 109572}, []float64{0.1, 0.7, 0.30000000000000004, 1e-3, 12345.678}, []known{
			{4, 0x1.7c57c57c57c58p-3, 0x1.91d680abf5d98p-3, 0x1.0e6e9e3b96cap-3},
			{5, 0x1.15f15f15f15f1p-2, 0x1.39c4970ff8d5cp-2, 0x1.6518e6f692da6p-3},
			{9, 0x1.3a83a83a83a83p-1, 0x1.5ac1c101f0c63p-1, 0x1.0f6b2d9c0f7e7p-1},
			{12, 0x1.3269b4cef2b23p-2, 0x1.31a17fdd2cb1dp-2, 0x1.2eba7e2050bffp-2},
			{140, 0x1.9b55055d64578p-3, 0x1.13f4172ee8a1bp-3, 0x1.72b90edfd3a26p-5},
			{399, 0x1.cfa3416f9bacbp-10, 0x1.06a9f9503e0cp-10, 0x1.0a041bf3a2b7p-10},
			{401, 0x1.d34a6c09a81fap-4, 0x1.06afe43011461p-10, 0x1.062ee6f6875ebp-10},
			{36790, 0x1.01326ba1544e3p+12, 0x1.1dc52fdbef443p+11, 0x1.d94994782b882p-3},
			{109571, 0x1.81cc84f2574b1p+13, 0x1.81cc84f1cc443p+13, 0x1.81bea71da1d97p+13},
		}},
		{[]int{0, 7, 109570}, []float64{2.5, 2.75, 1e10}, []known{
			{1, 0x1.4492492492492p+1, 0x1.4402fc4c03a99p+1, 0x1.4463078dd178cp+1},
			{2, 0x1.4924924924925p+1, 0x1.4746e77749291p+1, 0x1.48d57457db4f1p+1},
			{6, 0x1.5b6db6db6db6ep+1, 0x1.5811e9c815f98p+1, 0x1.5b3d5f9eccadp+1},
			{8, 0x1.648a703ba0feep+16, 0x1.1f33974433c25p+2, 0x1.60121b9a48f2bp+1},
			{36528, 0x1.8d5d42ae55555p+31, 0x1.b9842355f4b32p+30, 0x1.084d8643553cdp+12},
			{109569, 0x1.2a053fbc27e23p+33, 0x1.2a053fbbbd41p+33, 0x1.29f69e0609ecbp+33},
		}},
	} {
		for _, w := range c.want {
			checkAt(t, api.Table{Kind: api.ILinear, X: c.x, Y: c.y}, w.x, answer{w.linear, api.OK})
			checkAt(t, api.Table{Kind: api.ICubic, X: c.x, Y: c.y}, w.x, answer{w.cubic, api.OK})
			checkAt(t, api.Table{Kind: api.ILog, X: c.x, Y: c.y}, w.x, answer{w.log, api.OK})
		}
	}
}

// known is what three kinds tell at a place.
type known struct {
	x                  int
	linear, cubic, log float64
}

// Promise 10.3.
func TestAtSteps(t *testing.T) {
	state := uint64(103)
	for _, kind := range kinds() {
		between := 0
		for range 6000 {
			l := someTable(&state, kind)
			x := somePlace(&state, l)
			want := stepAt(l, x)
			checkAt(t, l, x, want)
			if want.e == api.OK && !slices.Contains(l.X, x) {
				between++
			}
		}
		if between < 2500 {
			t.Errorf("kind %d: only %d places between nodes", kind, between)
		}
	}
}

// Promise 10.3: one rounding of the exact value, at the widest gap, where a weight rounded by itself would show, at ties and at the ends of the numbers.
func TestAtIsRoundedOnce(t *testing.T) {
	state := uint64(104)
	for range 4000 {
		l := api.Table{X: []int{0, api.LastDay}, Y: []float64{someValue(&state, below(&state, sorts)), someValue(&state, below(&state, sorts))}}
		if scatter(&state)%2 == 0 {
			l.Y[1] = -l.Y[0]
		}
		x := below(&state, api.LastDay+1)
		for _, l.Kind = range []int{api.ILinear, api.ICubic} {
			checkAt(t, l, x, stepAt(l, x))
		}
	}
	one := ieee.Up(1)
	for _, c := range []struct {
		x    []int
		y    []float64
		at   int
		want float64
	}{
		{[]int{0, 2}, []float64{1, one}, 1, 1},                       // a tie
		{[]int{0, 2}, []float64{one, ieee.Up(one)}, 1, ieee.Up(one)}, // a tie
		{[]int{0, 2}, []float64{greatest, greatest}, 1, greatest},    // the sum alone is too great
		{[]int{0, 2}, []float64{greatest, -greatest}, 1, 0},          // nothing is left
		{[]int{0, 2}, []float64{0, least}, 1, 0},                     // a tie
		{[]int{0, 2}, []float64{0, -least}, 1, nought},               // not 0, but rounds to 0
		{[]int{0, 2}, []float64{least, 2 * least}, 1, 2 * least},     // a tie
		{[]int{0, 3}, []float64{0, least}, 2, least},                 // two thirds
		{[]int{0, 3}, []float64{0, -least}, 1, nought},               // a third
		{[]int{0, 3}, []float64{greatest, -least}, 1, greatest / 3 * 2},
		{[]int{0, 2}, []float64{nought, nought}, 1, 0}, // near of 0
		{[]int{0, api.LastDay}, []float64{0, least * api.LastDay}, 54787, 54787 * least},
		{[]int{5, 8}, []float64{1, 2}, 7, 0x1.aaaaaaaaaaaabp+0},
	} {
		checkAt(t, api.Table{Kind: api.ILinear, X: c.x, Y: c.y}, c.at, answer{c.want, api.OK})
	}
}

// Promise 10.3: ILog is held between the two values, and Exp alone would leave them.
func TestAtLogIsHeld(t *testing.T) {
	for _, c := range []struct{ a, b float64 }{{0.1, 0.1}, {3, 3}, {greatest, greatest}, {least, least}, {0.7, ieee.Up(0.7)}, {ieee.Down(greatest), greatest}, {1e300, 1e300}, {least, 2 * least}} {
		for _, y := range [][]float64{{c.a, c.b}, {c.b, c.a}} {
			l := api.Table{Kind: api.ILog, X: []int{0, 50}, Y: y}
			for x := range 51 {
				v, e := interp.At(l, x)
				if e != api.OK || v < c.a || v > c.b {
					t.Errorf("At(%v, %d) is %x, %v", l, x, v, e)
				}
				checkAt(t, l, x, stepAt(l, x))
			}
		}
	}
	checkAt(t, api.Table{Kind: api.ILog, X: []int{0, 2}, Y: []float64{1, 1}}, 1, answer{1, api.OK})
	state := uint64(105)
	held := 0
	for range 3000 {
		y := math.Ldexp(0.5+unit(&state), below(&state, 2000)-1000)
		l := api.Table{Kind: api.ILog, X: []int{0, 9}, Y: []float64{y, ieee.Up(y)}}
		x := 1 + below(&state, 8)
		checkAt(t, l, x, stepAt(l, x))
		if free := stepFree(l, x); free < y || free > l.Y[1] {
			held++
		}
	}
	if held < 100 {
		t.Errorf("held only %d times", held)
	}
}

// Promise 10.4: the bits, reckoned elsewhere.
func TestSlopesKnown(t *testing.T) {
	for _, c := range []struct {
		x       []int
		y, want []float64
	}{
		{[]int{0, 91, 182, 365, 730, 1826, 3652, 10957}, []float64{1, 0.9975, 0.9948, 0.9881, 0.9702, 0.89, 0.745, 0.31},
			[]float64{-0x1.cce99b66832a3p-16, -0x1.dea3d29bafa0fp-16, -0x1.12f5868f58998p-15, -0x1.5fb0c29e3864cp-15, -0x1.ec9f871e95dffp-15, -0x1.3f750d58f8d69p-14, -0x1.1d75f23d44582p-14, -0x1.f386e72f2e009p-15}},
		{[]int{3, 10, 11, 400, 109572}, []float64{0.1, 0.7, 0.30000000000000004, 1e-3, 12345.678},
			[]float64{0x1.5f15f15f15f16p-4, 0, -0x1.9236ec3083e34p-10, 0, 0x1.cf31d894ebb52p-4}},
		{[]int{0, 7, 109570}, []float64{2.5, 2.75, 1e10}, []float64{0x1.2492492492492p-5, 0x1.249241a3e15dbp-4, 0x1.6487b03ba0feep+16}},
	} {
		for _, kind := range kinds() {
			checkSlopes(t, api.Table{Kind: kind, X: c.x, Y: c.y}, c.want, api.OK)
		}
	}
}

// Promise 10.4: one node, flat sides, turns, and what is too great or too small.
func TestSlopesEdges(t *testing.T) {
	for _, c := range []struct {
		x       []int
		y, want []float64
	}{
		{[]int{7}, []float64{5}, []float64{0}},
		{[]int{7}, []float64{nought}, []float64{0}},
		{[]int{0, 2}, []float64{1, 2}, []float64{0.5, 0.5}},
		{[]int{0, 2}, []float64{3, 3}, []float64{0, 0}},
		{[]int{0, 1}, []float64{0, nought}, []float64{nought, nought}},
		{[]int{0, 1}, []float64{nought, 0}, []float64{0, 0}},
		{[]int{0, 1, 2}, []float64{0, 1, 0}, []float64{1, 0, -1}},
		{[]int{0, 1, 2}, []float64{0, -1, 0}, []float64{-1, 0, 1}},
		{[]int{0, 1, 2}, []float64{0, 1, 1}, []float64{1, 0, 0}},
		{[]int{0, 1, 2}, []float64{1, 1, 0}, []float64{0, 0, -1}},
		{[]int{0, 1, 2}, []float64{2, 1, 1}, []float64{-1, 0, 0}},
		{[]int{0, 2, 4}, []float64{0, -least, -3 * least}, []float64{nought, 0, -least}}, // a side that rounds to -0
		{[]int{0, 1, 2}, []float64{0, 1, 4}, []float64{1, 1.5, 3}},
		{[]int{0, 1, 2}, []float64{0, -1, -4}, []float64{-1, -1.5, -3}},
		{[]int{0, 1, 2}, []float64{-greatest, greatest, greatest}, []float64{inf, 0, 0}},
		{[]int{0, 1, 3}, []float64{-greatest, 0x1p1023, 0x1p1023 + 0x1p1000}, []float64{inf, 0x1p1000, 0x1p999}}, // 2 / (0 + 1 / b)
		{[]int{0, 1, 2, 3}, []float64{-0x1p1023, 0, 0x1p1022, 0x1p1023}, []float64{0x1p1023, 0x1.5555555555555p+1022, 0x1p1022, 0x1p1022}},
		{[]int{0, 1, 2}, []float64{0, least, 1}, []float64{least, 0, 1}}, // 2 / (Inf + 1)
		{[]int{0, 1, 2}, []float64{0, -least, -1}, []float64{-least, nought, -1}},
	} {
		for _, kind := range []int{api.IFlat, api.ILinear, api.ICubic} {
			checkSlopes(t, api.Table{Kind: kind, X: c.x, Y: c.y}, c.want, api.OK)
		}
	}
}

// Promise 10.4.
func TestSlopesSteps(t *testing.T) {
	state := uint64(106)
	for _, kind := range kinds() {
		means := 0
		for range 3000 {
			l := someTable(&state, kind)
			want := stepSlopes(l)
			checkSlopes(t, l, want, api.OK)
			for k, d := range want {
				if k > 0 && k < len(want)-1 && d != 0 && isNumber(d) {
					means++
				}
			}
		}
		if means < 2000 {
			t.Errorf("kind %d: only %d slopes between", kind, means)
		}
	}
}

// Promise 10.5: the bits, reckoned elsewhere; the last table's third point is held at the second.
func TestPointsKnown(t *testing.T) {
	for _, c := range []struct {
		x    []int
		y    []float64
		want [][]float64
	}{
		{[]int{3, 10, 11, 400, 109572}, []float64{0.1, 0.7, 0.30000000000000004, 1e-3, 12345.678}, [][]float64{
			{0x1.999999999999ap-4, 0x1.3333333333333p-2, 0x1.6666666666666p-1, 0x1.6666666666666p-1},
			{0x1.6666666666666p-1, 0x1.6666666666666p-1, 0x1.33b94581ee09ep-2, 0x1.3333333333334p-2},
			{0x1.3333333333334p-2, 0x1.9de586452c41ep-4, 0x1.0624dd2f1a9fcp-10, 0x1.0624dd2f1a9fcp-10},
			{0x1.0624dd2f1a9fcp-10, 0x1.0624dd2f1a9fcp-10, 0x1.01339e60f04c8p+13, 0x1.81cd6c8b43958p+13},
		}},
		{[]int{0, 7, 109570}, []float64{2.5, 2.75, 1e10}, [][]float64{
			{0x1.4p+1, 0x1.4aaaaaaaaaaabp+1, 0x1.4aaaab36b7913p+1, 0x1.6p+1},
			{0x1.6p+1, 0x1.466c89ec78638p+11, 0x1.8d5d42ab95556p+32, 0x1.2a05f2p+33},
		}},
		{[]int{0, 10, 20, 30}, []float64{0, 100, 101, 201}, [][]float64{
			{0, 0x1.0aaaaaaaaaaabp+5, 0x1.8d5c17a821cbap+6, 0x1.9p+6},
			{0x1.9p+6, 0x1.92a3e857de346p+6, 0x1.92a3e857de346p+6, 0x1.94p+6},
			{0x1.94p+6, 0x1.96a3e857de346p+6, 0x1.4f55555555555p+7, 0x1.92p+7},
		}},
	} {
		for _, kind := range []int{api.IFlat, api.ILinear, api.ICubic} {
			for k, want := range c.want {
				checkPoints(t, api.Table{Kind: kind, X: c.x, Y: c.y}, k, want, api.OK)
			}
		}
	}
}

// Promise 10.5.
func TestPointsSteps(t *testing.T) {
	state := uint64(107)
	for _, kind := range kinds() {
		held := 0
		for range 3000 {
			l := someTable(&state, kind)
			for _, k := range []int{math.MinInt, -1, len(l.X) - 1, len(l.X), api.MaxNodes, math.MaxInt} {
				checkPoints(t, l, k, nil, api.ErrRange)
			}
			for k := range len(l.X) - 1 {
				want := stepPoints(l, k)
				checkPoints(t, l, k, want, api.OK)
				if want[0] != want[3] && (want[1] == want[2] || want[1] == want[3]) {
					held++
				}
			}
		}
		if held < 300 {
			t.Errorf("kind %d: only %d times held", kind, held)
		}
	}
}

// Promises 10.6, W5.
func TestNodesAreTold(t *testing.T) {
	state := uint64(108)
	for _, kind := range kinds() {
		for range 2000 {
			l := someTable(&state, kind)
			for k, x := range l.X {
				checkAt(t, l, x, answer{l.Y[k], api.OK})
			}
		}
		full := long(kind, 256)
		for k, x := range full.X {
			checkAt(t, full, x, answer{1 + float64(k), api.OK})
		}
		if kind != api.ILog {
			for place := range 3 {
				l := long(kind, 3)
				l.Y[place] = nought
				checkAt(t, l, l.X[place], answer{nought, api.OK})
			}
		}
	}
}

// Promises 10.7, W4: no value outside of the two nodes'.
func TestValuesStayBetween(t *testing.T) {
	state := uint64(109)
	for _, kind := range kinds() {
		for range 6000 {
			l := someTable(&state, kind)
			x := somePlace(&state, l)
			k := stepFind(l, x)
			if k < 0 || k == len(l.X)-1 {
				continue
			}
			lo, hi := min(l.Y[k], l.Y[k+1]), max(l.Y[k], l.Y[k+1])
			if v, e := interp.At(l, x); e != api.OK || !(v >= lo && v <= hi) {
				t.Fatalf("At(%v, %d) is %x, %v", l, x, v, e)
			}
		}
	}
}

// Promises 10.7, W4: where the nodes run one way, all values do, from each place to the next.
func TestValuesRunOneWay(t *testing.T) {
	state := uint64(110)
	steps := 0
	for _, kind := range []int{api.IFlat, api.ILinear, api.ICubic} {
		for range 500 {
			l := someTable(&state, kind)
			slices.Sort(l.Y)
			falls := scatter(&state)%2 == 0
			if falls {
				slices.Reverse(l.Y)
			}
			at := l.X[0] + below(&state, 1+max(0, l.X[len(l.X)-1]-l.X[0]-300))
			last := math.Copysign(inf, -1)
			for x := at; x <= min(at+300, l.X[len(l.X)-1]); x++ {
				v, e := interp.At(l, x)
				if falls {
					v = -v
				}
				if e != api.OK || v < last {
					t.Fatalf("At(%v, %d) is %x, %v, behind %x", l, x, v, e, last)
				}
				if v > last {
					steps++
				}
				last = v
			}
		}
	}
	if steps < 20000 {
		t.Errorf("only %d steps", steps)
	}
}

// turned and doubled are a table with all values turned in sign, and doubled.
func turned(l api.Table) api.Table {
	l.Y = slices.Clone(l.Y)
	for k := range l.Y {
		l.Y[k] = -l.Y[k]
	}
	return l
}

func doubled(l api.Table) api.Table {
	l.Y = slices.Clone(l.Y)
	for k := range l.Y {
		l.Y[k] *= 2
	}
	return l
}

// evenValues is n values that are 0 or from 2^-900 to 2^900 in size, at times next to each other.
func evenValues(state *uint64, n int) []float64 {
	var l []float64
	y := 1.0
	for range n {
		switch below(state, 6) {
		case 0:
			y = 0
		case 1:
			y = 0x1p900
		case 2:
			y = 0x1p-900
		case 3:
			if y != 0 && math.Abs(y) < 0x1p899 {
				y = math.Copysign(ieee.Up(math.Abs(y)), y)
			}
		default:
			y = math.Ldexp(0.5+unit(state)/2, below(state, 1800)-899)
		}
		if scatter(state)%3 == 0 {
			y = -y
		}
		l = append(l, y)
	}
	return l
}

// Promise 10.8.
func TestTurnedAndDoubled(t *testing.T) {
	state := uint64(111)
	for _, kind := range []int{api.ILinear, api.ICubic} {
		twice := 0
		for range 5000 {
			l := someTable(&state, kind)
			x := somePlace(&state, l)
			v, e := interp.At(l, x)
			w, f := interp.At(turned(l), x)
			if v != -w || e != f {
				t.Fatalf("At(%v, %d) is %x, %v; turned %x, %v", l, x, v, e, w, f)
			}
			l.Y = evenValues(&state, len(l.Y))
			v, e = interp.At(l, x)
			w, f = interp.At(doubled(l), x)
			if !ieee.Same(w, 2*v) || e != f {
				t.Fatalf("At(%v, %d) is %x, %v; doubled %x, %v", l, x, v, e, w, f)
			}
			if v != 0 && !slices.Contains(l.X, x) {
				twice++
			}
		}
		if twice < 1500 {
			t.Errorf("kind %d: doubled only %d times", kind, twice)
		}
	}
}

// roomy is the table with spare room behind its lists, and the whole of these lists.
func roomy(l api.Table) (api.Table, []int, []float64) {
	x := append(slices.Clone(l.X), -7, -8, -9)
	y := append(slices.Clone(l.Y), -7, -8, -9)
	l.X, l.Y = x[:len(l.X)], y[:len(l.Y)]
	return l, x, y
}

// Promise 10.9: what is handed in stays as it was, and what is told is new memory.
func TestListsAreNew(t *testing.T) {
	for _, kind := range kinds() {
		l, x, y := roomy(long(kind, 5))
		places, values := slices.Clone(x), slices.Clone(y)
		d, _ := interp.Slopes(l)
		c, _ := interp.Points(l, 1)
		again, _ := interp.Slopes(l)
		cAgain, _ := interp.Points(l, 1)
		interp.Check(l)
		interp.Find(l, 5)
		interp.At(l, 5)
		for _, list := range [][]float64{d, c} {
			list = list[:cap(list)]
			for i := range list {
				list[i] = nan
			}
		}
		if !slices.Equal(x, places) || !sameList(y, values) {
			t.Errorf("kind %d: the table was changed: %v, %v", kind, x, y)
		}
		if !sameList(again, stepSlopes(l)) || !sameList(cAgain, stepPoints(l, 1)) {
			t.Errorf("kind %d: lists share memory", kind)
		}
		checkSlopes(t, l, again, api.OK)
		checkPoints(t, l, 1, cAgain, api.OK)
	}
}

// someWrong is a table of any numbers, mostly one that may not be.
func someWrong(state *uint64) api.Table {
	l := someTable(state, 1+below(state, 4))
	switch below(state, 6) {
	case 0:
		l.Kind = int(scatter(state))
	case 1:
		l.X[below(state, len(l.X))] = int(scatter(state))
	case 2:
		l.Y[below(state, len(l.Y))] = math.Float64frombits(scatter(state))
	case 3:
		l.X = l.X[:below(state, len(l.X)+1)]
	case 4:
		l.Y = l.Y[:below(state, len(l.Y)+1)]
	}
	return l
}

// Promise 10.9: whatever they are given, the calls end, and tell a number or an error of theirs, the same each time.
func TestEveryCallEnds(t *testing.T) {
	state := uint64(112)
	good := 0
	for range 20000 {
		l := someWrong(&state)
		at := int(scatter(&state) % 20)
		if scatter(&state)%2 == 0 {
			at = int(scatter(&state))
		}
		e := interp.Check(l)
		if e != api.OK && e != api.ErrKind && e != api.ErrNodes {
			t.Fatalf("Check(%v) is %v", l, e)
		}
		if e == api.OK {
			good++
		}
		for i, call := range []func() ([]float64, api.Errno){
			func() ([]float64, api.Errno) { v, e := interp.At(l, at); return []float64{v}, e },
			func() ([]float64, api.Errno) { k, e := interp.Find(l, at); return []float64{float64(k)}, e },
			func() ([]float64, api.Errno) { return interp.Slopes(l) },
			func() ([]float64, api.Errno) { return interp.Points(l, at) },
		} {
			got, f := call()
			again, g := call()
			if !sameList(got, again) || f != g || e != api.OK && f != e || f != api.OK && f != e && f != api.ErrRange {
				t.Fatalf("call %d of %v, %d: %v, %v and %v, %v", i, l, at, got, f, again, g)
			}
		}
	}
	if good < 4000 || good > 16000 {
		t.Errorf("%d tables may be", good)
	}
}
