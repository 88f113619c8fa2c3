package ieee_test

import (
	"math"
	"math/big"
	"slices"
	"testing"

	"tenor/api"
	"tenor/ieee"
)

const (
	least       = 0x1p-1074
	greatestSub = 0x1p-1022 - 0x1p-1074
	leastNormal = 0x1p-1022
	greatest    = math.MaxFloat64
	infRank     = 9218868437227405312
)

var (
	inf    = math.Inf(1)
	nought = math.Copysign(0, -1)
	nans   = []float64{
		math.NaN(),
		math.Float64frombits(0x7ff0000000000001), // signalling, the NaN next to the infinity
		math.Float64frombits(0x7fffffffffffffff),
		math.Float64frombits(0xfff8000000000000),
		math.Float64frombits(0xffffffffffffffff),
	}
)

// rising is numbers and infinities in the order of Less, both zeros in it.
func rising() []float64 {
	up := []float64{0, least, 2 * least, 3 * least, 0x1p-1023, greatestSub, leastNormal, 0x1.0000000000001p-1022, 0x1p-150, 0x1p-149,
		0.1, 0.5, 0x1.fffffffffffffp-1, 1, 0x1.0000000000001p0, 1.5, 2, 3, 0x1p52, 0x1p53, 1e39, 0x1p1023, 0x1.ffffffffffffep1023, greatest, inf}
	var l []float64
	for i := len(up) - 1; i >= 0; i-- {
		l = append(l, -up[i])
	}
	l[len(l)-1] = nought
	return append(l, up...)
}

// mixed is rising, and more floats of all exponents by a fixed rule, NaNs not among them.
func mixed() []float64 {
	l := rising()
	state := uint64(1)
	for len(l) < 20000 {
		if x := math.Float64frombits(scatter(&state)); !math.IsNaN(x) {
			l = append(l, x)
		}
	}
	return l
}

// scatter is splitmix64: the same numbers in every run.
func scatter(state *uint64) uint64 {
	*state += 0x9e3779b97f4a7c15
	z := *state
	z = (z ^ z>>30) * 0xbf58476d1ce4e5b9
	z = (z ^ z>>27) * 0x94d049bb133111eb
	return z ^ z>>31
}

// same holds floats against each other without the package's own Same.
func same(x, y float64) bool {
	return math.IsNaN(x) && math.IsNaN(y) || math.Float64bits(x) == math.Float64bits(y)
}

func same32(x, y float32) bool {
	return x != x && y != y || math.Float32bits(x) == math.Float32bits(y)
}

func positive(x float64) float64 {
	if x == 0 {
		return 0
	}
	return x
}

// Promise 1.1.
func TestClass(t *testing.T) {
	for _, c := range []struct {
		x    float64
		want int
	}{
		{0, api.FZero}, {nought, api.FZero},
		{least, api.FSub}, {-least, api.FSub}, {greatestSub, api.FSub}, {-greatestSub, api.FSub},
		{leastNormal, api.FNormal}, {-leastNormal, api.FNormal}, {1, api.FNormal}, {-1, api.FNormal}, {greatest, api.FNormal}, {-greatest, api.FNormal},
		{inf, api.FInf}, {-inf, api.FInf},
	} {
		if got := ieee.Class(c.x); got != c.want {
			t.Errorf("Class(%x) is %d, not %d", c.x, got, c.want)
		}
	}
	for _, x := range nans {
		if got := ieee.Class(x); got != api.FNaN {
			t.Errorf("Class of NaN %x is %d", math.Float64bits(x), got)
		}
	}
}

// Promise 1.1.
func TestNegative(t *testing.T) {
	for _, x := range mixed() {
		if got, want := ieee.Negative(x), math.Signbit(x); got != want {
			t.Errorf("Negative(%x) is %v", x, got)
		}
	}
	for _, x := range nans {
		if ieee.Negative(x) {
			t.Errorf("Negative of NaN %x", math.Float64bits(x))
		}
	}
}

// Promise 1.1.
func TestSame(t *testing.T) {
	l := rising()
	for i, x := range l {
		for k, y := range l {
			if got := ieee.Same(x, y); got != (i == k) {
				t.Errorf("Same(%x, %x) is %v", x, y, got)
			}
		}
		for _, y := range nans {
			if ieee.Same(x, y) || ieee.Same(y, x) {
				t.Errorf("%x is the same as a NaN", x)
			}
		}
	}
	for _, x := range nans {
		for _, y := range nans {
			if !ieee.Same(x, y) {
				t.Errorf("NaNs %x and %x are not the same", math.Float64bits(x), math.Float64bits(y))
			}
		}
	}
}

// Promise 1.2.
func TestRank(t *testing.T) {
	for _, c := range []struct {
		x    float64
		want int
	}{
		{0, 0}, {nought, 0}, {least, 1}, {-least, -1}, {greatestSub, 1<<52 - 1}, {leastNormal, 1 << 52}, {-leastNormal, -1 << 52},
		{1, 4607182418800017408}, {-1, -4607182418800017408}, {greatest, infRank - 1}, {-greatest, 1 - infRank}, {inf, infRank}, {-inf, -infRank},
	} {
		if got, ok := ieee.Rank(c.x); got != c.want || !ok {
			t.Errorf("Rank(%x) is %d, %v, not %d", c.x, got, ok, c.want)
		}
	}
	for _, x := range nans {
		if got, ok := ieee.Rank(x); got != 0 || ok {
			t.Errorf("Rank of NaN %x is %d, %v", math.Float64bits(x), got, ok)
		}
	}
}

// Promise 1.2.
func TestAt(t *testing.T) {
	for _, c := range []struct {
		n    int
		want float64
	}{
		{0, 0}, {1, least}, {-1, -least}, {1 << 52, leastNormal}, {-1 << 52, -leastNormal}, {4607182418800017408, 1},
		{infRank - 1, greatest}, {1 - infRank, -greatest}, {infRank, inf}, {-infRank, -inf},
	} {
		if got, ok := ieee.At(c.n); !same(got, c.want) || !ok {
			t.Errorf("At(%d) is %x, %v, not %x", c.n, got, ok, c.want)
		}
	}
	for _, n := range []int{infRank + 1, -infRank - 1, math.MaxInt, math.MinInt, math.MinInt + 1} {
		if got, ok := ieee.At(n); !same(got, 0) || ok {
			t.Errorf("At(%d) is %x, %v", n, got, ok)
		}
	}
}

// Promise 1.3.
func TestUpAndDown(t *testing.T) {
	for _, c := range []struct{ x, up, down float64 }{
		{0, least, -least}, {nought, least, -least},
		{least, 2 * least, 0}, {-least, 0, -2 * least},
		{greatest, inf, 0x1.ffffffffffffep1023}, {-greatest, -0x1.ffffffffffffep1023, -inf},
		{inf, inf, greatest}, {-inf, -greatest, -inf},
	} {
		if got := ieee.Up(c.x); !same(got, c.up) {
			t.Errorf("Up(%x) is %x, not %x", c.x, got, c.up)
		}
		if got := ieee.Down(c.x); !same(got, c.down) {
			t.Errorf("Down(%x) is %x, not %x", c.x, got, c.down)
		}
	}
	for _, x := range mixed() {
		if got, want := ieee.Up(x), positive(math.Nextafter(x, inf)); !same(got, want) {
			t.Errorf("Up(%x) is %x, not %x", x, got, want)
		}
		if got, want := ieee.Down(x), positive(math.Nextafter(x, -inf)); !same(got, want) {
			t.Errorf("Down(%x) is %x, not %x", x, got, want)
		}
	}
	for _, x := range nans {
		if up, down := ieee.Up(x), ieee.Down(x); !math.IsNaN(up) || !math.IsNaN(down) {
			t.Errorf("beside NaN %x lie %x and %x", math.Float64bits(x), up, down)
		}
	}
}

// rankOf is Rank by whole numbers without bound.
func rankOf(x float64) *big.Int {
	n := new(big.Int).SetUint64(math.Float64bits(math.Abs(x)))
	if math.Signbit(x) {
		n.Neg(n)
	}
	return n
}

// Promise 1.3.
func TestMidAndGap(t *testing.T) {
	for _, c := range []struct{ x, y, want float64 }{
		{1, 2, 1.5}, {1, 0x1.0000000000001p0, 1}, {-1, 1, 0}, {-least, 0, -least}, {-least, nought, -least}, {0, least, 0}, {nought, least, 0},
		{nought, nought, 0}, {inf, inf, inf}, {-inf, -inf, -inf}, {-inf, inf, 0}, {greatest, inf, greatest}, {-greatest, -inf, -inf}, {-1, -0x1.0000000000001p0, -0x1.0000000000001p0},
	} {
		if got, ok := ieee.Mid(c.x, c.y); !same(got, c.want) || !ok {
			t.Errorf("Mid(%x, %x) is %x, %v, not %x", c.x, c.y, got, ok, c.want)
		}
	}
	if g, ok := ieee.Gap(1, 2); g != 4503599627370496 || !ok {
		t.Errorf("Gap(1, 2) is %d, %v", g, ok)
	}
	if g, ok := ieee.Gap(0, nought); g != 0 || !ok {
		t.Errorf("Gap(0, -0) is %d, %v", g, ok)
	}
	if g, ok := ieee.Gap(inf, -inf); g != 2*infRank || !ok {
		t.Errorf("Gap(Inf, -Inf) is %d, %v", g, ok)
	}
	l := append(rising(), mixed()[:300]...)
	for _, x := range l {
		for _, y := range l {
			checkMidAndGap(t, x, y)
		}
	}
}

func checkMidAndGap(t *testing.T, x, y float64) {
	a, b := rankOf(x), rankOf(y)
	half := new(big.Int).Add(a, b)
	half.Rsh(half, 1) // rounds down
	mid, ok := ieee.Mid(x, y)
	if !ok || rankOf(mid).Cmp(half) != 0 || mid == 0 && math.Signbit(mid) {
		t.Errorf("Mid(%x, %x) is %x, %v", x, y, mid, ok)
	}
	gap, ok := ieee.Gap(x, y)
	if want := new(big.Int).Sub(a, b); !ok || gap != want.Abs(want).Uint64() {
		t.Errorf("Gap(%x, %x) is %d, %v", x, y, gap, ok)
	}
}

// Promise 1.3.
func TestMidAndGapOfNaN(t *testing.T) {
	for _, n := range nans {
		for _, x := range append(rising(), nans...) {
			for _, c := range [][2]float64{{n, x}, {x, n}} {
				if m, ok := ieee.Mid(c[0], c[1]); !same(m, 0) || ok {
					t.Errorf("Mid(%x, %x) is %x, %v", c[0], c[1], m, ok)
				}
				if g, ok := ieee.Gap(c[0], c[1]); g != 0 || ok {
					t.Errorf("Gap(%x, %x) is %d, %v", c[0], c[1], g, ok)
				}
			}
		}
	}
}

// Promise 1.4.
func TestSplit(t *testing.T) {
	for _, c := range []struct {
		x    float64
		m, e int
	}{
		{0, 0, 0}, {nought, 0, 0}, {least, 1, -1074}, {-least, -1, -1074}, {greatestSub, 1<<52 - 1, -1074},
		{leastNormal, 1 << 52, -1074}, {0x1p-1021, 1 << 52, -1073}, {1, 1 << 52, -52}, {-1.5, -3 << 51, -52}, {greatest, 1<<53 - 1, 971}, {-greatest, 1 - 1<<53, 971},
	} {
		if m, e, ok := ieee.Split(c.x); m != c.m || e != c.e || !ok {
			t.Errorf("Split(%x) is %d, %d, %v", c.x, m, e, ok)
		}
	}
	for _, x := range append([]float64{inf, -inf}, nans...) {
		if m, e, ok := ieee.Split(x); m != 0 || e != 0 || ok {
			t.Errorf("Split(%x) is %d, %d, %v", x, m, e, ok)
		}
	}
	for _, x := range mixed() {
		m, e, ok := ieee.Split(x)
		if math.IsInf(x, 0) || x == 0 {
			continue
		}
		size := max(m, -m)
		normal := size >= 1<<52 && size < 1<<53
		if math.Abs(x) < leastNormal {
			normal = size < 1<<52 && e == -1074
		}
		if !ok || !normal || math.Ldexp(float64(m), e) != x {
			t.Errorf("Split(%x) is %d, %d, %v", x, m, e, ok)
		}
	}
}

// Promise 1.4.
func TestJoin(t *testing.T) {
	for _, c := range []struct {
		m, e int
		want float64
	}{
		{0, 0, 0}, {0, math.MaxInt, 0}, {0, math.MinInt, 0},
		{3, -1075, 0x1p-1073}, {1, -1075, 0}, {-1, -1075, nought}, {1, 1024, inf}, {-1, 1024, -inf}, {1, 1023, 0x1p1023},
		{1, math.MaxInt, inf}, {-1, math.MaxInt, -inf}, {1, math.MinInt, 0}, {-1, math.MinInt, nought},
		{math.MaxInt, math.MaxInt, inf}, {math.MinInt, math.MaxInt, -inf}, {math.MaxInt, math.MinInt, 0}, {math.MinInt, math.MinInt, nought},
		{math.MinInt, -63, -1}, {math.MaxInt, -63, 1}, {math.MinInt, 960, -0x1p1023}, {math.MinInt, 961, -inf}, {math.MaxInt, 961, inf},
		{math.MinInt, -1137, -least}, {math.MinInt, -1138, nought}, {math.MinInt + 1, -1138, nought}, {math.MaxInt, -1138, 0}, {math.MaxInt, -1137, least},
		{1<<53 + 1, 0, 1 << 53}, {1<<53 + 3, 0, 1<<53 + 4}, {-1<<53 - 1, 0, -1 << 53}, {1<<54 + 1, 0, 1 << 54}, {1<<54 + 3, 0, 1<<54 + 4},
		{1<<53 - 1, 971, greatest}, {1<<54 - 1, 970, inf}, {1<<55 - 3, 969, greatest}, {1 - 1<<54, 970, -inf},
		{1<<53 - 1, -1075, leastNormal}, {1<<53 - 3, -1075, greatestSub - least}, {5, -1075, 2 * least}, {7, -1076, 2 * least}, {6, -1076, 2 * least}, {3, -1076, least}, {1<<52 + 1, -1074, leastNormal + least},
	} {
		if got := ieee.Join(c.m, c.e); !same(got, c.want) {
			t.Errorf("Join(%d, %d) is %x, not %x", c.m, c.e, got, c.want)
		}
	}
}

// Promise 1.4: against exact arithmetic, with all bits' places and around halves.
func TestJoinExact(t *testing.T) {
	ms := []int{math.MaxInt, math.MinInt, math.MinInt + 1}
	for i := range 63 {
		for d := -2; d <= 2; d++ {
			ms = append(ms, 1<<i+d, 3<<(i/2)<<(i/2)+d, -(1<<i + d))
		}
	}
	state := uint64(2)
	for range 100 {
		u := scatter(&state)
		ms = append(ms, int(u), int(u>>(u&63)))
	}
	for _, m := range ms {
		for e := -1200; e <= 1100; e++ {
			if e > -1000 && e < 900 && e%50 != 0 {
				continue
			}
			want, _ := new(big.Float).SetMantExp(new(big.Float).SetInt64(int64(m)), e).Float64()
			if got := ieee.Join(m, e); !same(got, want) {
				t.Fatalf("Join(%d, %d) is %x, not %x", m, e, got, want)
			}
		}
	}
}

// Promise 1.5.
func TestSingle(t *testing.T) {
	const greatest32 = math.MaxFloat32
	tiny, half := 0x1p-149, 0x1p-150
	inf32, no32 := float32(inf), float32(nought)
	for _, c := range []struct {
		x    float64
		want float32
	}{
		{0, 0}, {nought, no32}, {inf, inf32}, {-inf, -inf32}, {1, 1}, {0.1, 0x1.99999ap-4}, {1e39, inf32}, {-1e39, -inf32}, {greatest, inf32}, {-greatest, -inf32},
		{0x1.000001p0, 1}, {0x1.0000010000001p0, 0x1.000002p0}, {0x1.000003p0, 0x1.000004p0}, {0x1.0000030000001p0, 0x1.000004p0}, {0x1.0000029ffffffp0, 0x1.000002p0}, {-0x1.000003p0, -0x1.000004p0},
		{greatest32, greatest32}, {0x1.fffffefffffffp127, greatest32}, {0x1.ffffffp127, inf32}, {-0x1.ffffffp127, -inf32},
		{half, 0}, {-half, no32}, {0x1.0000000000001p-150, 0x1p-149}, {-0x1p-151, no32}, {least, 0}, {-least, no32}, {leastNormal, 0},
		{tiny, 0x1p-149}, {3 * half, 0x1p-148}, {5 * half, 0x1p-148}, {0x1.fffffffffffffp-127, 0x1p-126},
	} {
		if got := ieee.Single(c.x); !same32(got, c.want) {
			t.Errorf("Single(%x) is %x, not %x", c.x, got, c.want)
		}
	}
	for _, x := range nans {
		if got := ieee.Single(x); got == got {
			t.Errorf("Single of NaN %x is %x", math.Float64bits(x), got)
		}
	}
}

// middling is floats around the reach of binary32, halves between two of them too.
func middling() []float64 {
	l := mixed()
	state := uint64(3)
	for range 50000 {
		u := scatter(&state)
		s := float64(math.Float32frombits(uint32(u)))
		h := float64(math.Float32frombits(uint32(u) + 1))
		if math.IsNaN(s) || math.IsNaN(h) {
			continue
		}
		half := s/2 + h/2
		l = append(l, s, half, math.Nextafter(half, inf), math.Nextafter(half, -inf))
	}
	return l
}

// Promise 1.5: against exact arithmetic.
func TestSingleExact(t *testing.T) {
	for _, x := range middling() {
		if math.IsNaN(x) {
			continue
		}
		want, _ := new(big.Float).SetFloat64(x).Float32()
		if got := ieee.Single(x); !same32(got, want) {
			t.Fatalf("Single(%x) is %x, not %x", x, got, want)
		}
	}
}

// Promises 1.5 and 1.9.
func TestDouble(t *testing.T) {
	for _, c := range []struct {
		x    float32
		want float64
	}{
		{0, 0}, {float32(nought), nought}, {float32(inf), inf}, {float32(-inf), -inf}, {0x1p-149, 0x1p-149}, {-0x1p-149, -0x1p-149}, {0x1p-126, 0x1p-126},
		{math.MaxFloat32, 0x1.fffffep127}, {0x1.99999ap-4, 0x1.99999ap-4},
	} {
		if got := ieee.Double(c.x); !same(got, c.want) {
			t.Errorf("Double(%x) is %x, not %x", c.x, got, c.want)
		}
	}
	for u := uint64(0); u < 1<<32; u += 4093 { // by an odd step: all exponents, both signs, NaNs
		s := math.Float32frombits(uint32(u))
		d := ieee.Double(s)
		if back := ieee.Single(d); !same32(back, s) {
			t.Fatalf("Single(Double(%x)) is %x", s, back)
		}
		if s != s != math.IsNaN(d) {
			t.Fatalf("Double(%x) is %x", s, d)
		}
	}
}

// Promise 1.6.
func TestLess(t *testing.T) {
	l := append(rising(), math.NaN())
	for i, x := range l {
		for k, y := range l {
			if got := ieee.Less(x, y); got != (i < k) {
				t.Errorf("Less(%x, %x) is %v", x, y, got)
			}
		}
		for _, y := range nans {
			if ieee.Less(x, y) == math.IsNaN(x) || ieee.Less(y, x) {
				t.Errorf("NaN %x does not stand behind %x", math.Float64bits(y), x)
			}
		}
	}
}

// Promise 1.6.
func TestSort(t *testing.T) {
	l := append(mixed(), nans...)
	l = append(l, 0, nought, 0, nought, 1, 1)
	state := uint64(4)
	for i := len(l) - 1; i > 0; i-- {
		k := int(scatter(&state) % uint64(i+1))
		l[i], l[k] = l[k], l[i]
	}
	got := ieee.Sort(l)
	if len(got) != len(l) {
		t.Fatalf("%d floats of %d", len(got), len(l))
	}
	for i := 1; i < len(got); i++ {
		x, y := got[i-1], got[i]
		falls := x > y || math.IsNaN(x) && !math.IsNaN(y) || x == 0 && y == 0 && math.Signbit(y) && !math.Signbit(x)
		if falls {
			t.Errorf("%x stands ahead of %x", x, y)
		}
	}
	if !slices.Equal(countBits(got), countBits(l)) {
		t.Error("not the same floats")
	}
}

// countBits is the floats' bits, sorted as whole numbers, all NaNs as one.
func countBits(l []float64) []uint64 {
	var out []uint64
	for _, x := range l {
		if math.IsNaN(x) {
			x = math.NaN()
		}
		out = append(out, math.Float64bits(x))
	}
	slices.Sort(out)
	return out
}

// Promise 1.6 with rules 1 and 3: the list handed in, and the room behind it, stay as they were, and the answer shares none of it.
func TestSortLeavesItsArgument(t *testing.T) {
	room := []float64{3, 1, 2, 9, 8}
	got := ieee.Sort(room[:3])
	if !slices.Equal(got, []float64{1, 2, 3}) {
		t.Error(got)
	}
	for i := range got[:cap(got)] {
		got[:cap(got)][i] = 7
	}
	if !slices.Equal(room, []float64{3, 1, 2, 9, 8}) {
		t.Error("changed:", room)
	}
	room[0] = 4
	if got[2] != 7 {
		t.Error("shared:", got)
	}
	for _, l := range [][]float64{nil, {}, room[:0]} {
		got := ieee.Sort(l)
		_ = append(got, 5)
		if len(got) != 0 || room[0] != 4 {
			t.Error("of an empty list:", got, room)
		}
	}
	one := []float64{nans[1]}
	if got := ieee.Sort(one); len(got) != 1 || !math.IsNaN(got[0]) {
		t.Error(got)
	}
}

// Promise 1.7.
func TestRanksGoThereAndBack(t *testing.T) {
	l := rising()
	for i, x := range l {
		for _, y := range l[i+1:] {
			a, _ := ieee.Rank(x)
			b, _ := ieee.Rank(y)
			if x < y && a >= b || x == y && a != b {
				t.Errorf("Rank(%x) is %d, Rank(%x) is %d", x, a, y, b)
			}
		}
	}
	for _, x := range mixed() {
		n, ok := ieee.Rank(x)
		back, found := ieee.At(n)
		if !ok || !found || !same(back, positive(x)) {
			t.Errorf("At(Rank(%x)) is %x", x, back)
		}
		if math.IsInf(x, 0) || math.IsInf(ieee.Down(x), 0) {
			continue
		}
		if back := ieee.Up(ieee.Down(x)); !same(back, positive(x)) {
			t.Errorf("Up(Down(%x)) is %x", x, back)
		}
	}
}

// Promise 1.8.
func TestHalvingEnds(t *testing.T) {
	l := append(rising(), mixed()[:200]...)
	for i, x := range l {
		for k, y := range l {
			lo, hi := min(x, y), max(x, y)
			for side := range 2 {
				halve(t, lo, hi, side == 0, uint64(i*len(l)+k))
			}
		}
	}
}

// halve goes to one side always, or to sides by a fixed rule.
func halve(t *testing.T, lo, hi float64, low bool, state uint64) {
	for steps := 0; ieee.Up(lo) < hi; steps++ {
		mid, ok := ieee.Mid(lo, hi)
		if !ok || mid <= lo || mid >= hi {
			t.Fatalf("Mid(%x, %x) is %x, %v", lo, hi, mid, ok)
		}
		if steps == 64 {
			t.Fatalf("no end within 64 steps: %x, %x", lo, hi)
		}
		if low || scatter(&state)&1 == 0 {
			hi = mid
		} else {
			lo = mid
		}
	}
}

// Promise 1.9.
func TestSingleDoesNotFall(t *testing.T) {
	l := middling()
	slices.Sort(l)
	for i := 1; i < len(l); i++ {
		if a, b := ieee.Single(l[i-1]), ieee.Single(l[i]); a > b {
			t.Errorf("Single(%x) is %x, Single(%x) is %x", l[i-1], a, l[i], b)
		}
	}
}

// Promise 1.10.
func TestJoinOfSplit(t *testing.T) {
	for _, x := range mixed() {
		m, e, ok := ieee.Split(x)
		if math.IsInf(x, 0) {
			continue
		}
		if back := ieee.Join(m, e); !ok || !same(back, positive(x)) {
			t.Errorf("Join(Split(%x)) is %x", x, back)
		}
	}
}
