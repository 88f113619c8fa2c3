package fn_test

import (
	"math"
	"math/big"
	"slices"
	"testing"

	"tenor/api"
	"tenor/fn"
	"tenor/ieee"
)

// one is a call's answer and what it has to be.
type one struct {
	name      string
	got, want float64
}

func checkAll(t *testing.T, l []one) {
	t.Helper()
	for _, c := range l {
		if !ieee.Same(c.got, c.want) {
			t.Errorf("%s is %x, not %x", c.name, c.got, c.want)
		}
	}
}

// The chapter's examples.
func TestExamples(t *testing.T) {
	checkAll(t, []one{
		{"Horner(1 2 3, 2)", fn.Horner([]float64{1, 2, 3}, 2), 17},
		{"Horner(nothing, 5)", fn.Horner(nil, 5), 0},
		{"Pow(2, 10)", fn.Pow(2, 10), 1024},
		{"Pow(2, -1)", fn.Pow(2, -1), 0.5},
		{"Pow(0, 0)", fn.Pow(0, 0), 1},
		{"Pow(3, 1048577)", fn.Pow(3, 1048577), nan},
		{"Exp(0)", fn.Exp(0), 1},
		{"Exp(710)", fn.Exp(710), inf},
		{"Exp(-746)", fn.Exp(-746), 0},
		{"Exp(NaN)", fn.Exp(nan), nan},
		{"Ln(1)", fn.Ln(1), 0},
		{"Ln(-0)", fn.Ln(nought), -inf},
		{"Ln(-1)", fn.Ln(-1), nan},
		{"Ln(+Inf)", fn.Ln(inf), inf},
	})
	if e := fn.Exp(1); apart(e, 0x1.5bf0a8b14576ap+1) > 1 {
		t.Errorf("Exp(1) is %x", e)
	}
	if e := fn.Exp(-1); apart(e, 0x1.78b56362cef38p-2) > 1 {
		t.Errorf("Exp(-1) is %x", e)
	}
}

// Promise 4.1.
func TestHornerEdges(t *testing.T) {
	checkAll(t, []one{
		{"of an empty list at a NaN", fn.Horner([]float64{}, nan), 0},
		{"of an empty list at an infinity", fn.Horner([]float64{}, -inf), 0},
		{"of one", fn.Horner([]float64{7}, nan), 7},
		{"of -0 alone", fn.Horner([]float64{nought}, 3), nought},
		{"of a NaN alone", fn.Horner([]float64{nan}, 3), nan},
		{"0 times an infinity", fn.Horner([]float64{1, 0}, inf), nan},
		{"at an infinity", fn.Horner([]float64{1, 0, -2}, inf), -inf},
		{"a NaN ahead", fn.Horner([]float64{nan, 0, 1}, 2), nan},
		{"a NaN last, times 0", fn.Horner([]float64{1, 0, nan}, 0), nan},
		{"too great on the way", fn.Horner([]float64{0, -inf, 1e300}, 1e300), nan},
		{"-0 all the way", fn.Horner([]float64{nought, nought}, 1), nought},
		{"-0 and +0", fn.Horner([]float64{nought, nought}, -1), 0},
		// (2^27 + 1)^2 is 2^54 + 2^28 + 1: rounded by itself it loses the 1, fused with the sum it would not.
		{"not fused", fn.Horner([]float64{-(0x1p54 + 0x1p28), 0x1p27 + 1}, 0x1p27+1), 0},
		// From the right: from the left, by powers of x, the 1 would be lost.
		{"from the right", fn.Horner([]float64{0, 1, 0x1p53, -0x1p53}, 1), 1},
	})
}

// Promise 4.1.
func TestHornerSteps(t *testing.T) {
	state := uint64(41)
	greatOnes := 0
	for range 4000 {
		l := make([]float64, scatter(&state)%12)
		for i := range l {
			l[i] = coefficient(&state)
		}
		x := coefficient(&state)
		got, want := fn.Horner(l, x), stepHorner(l, x)
		if !ieee.Same(got, want) {
			t.Fatalf("Horner(%x, %x) is %x, not %x", l, x, got, want)
		}
		if len(l) > 4 && isNumber(got) {
			greatOnes++
		}
	}
	if greatOnes < 1000 {
		t.Errorf("only %d long lists had a number", greatOnes)
	}
}

// coefficient is mostly a number of everyday size, now and then any float.
func coefficient(state *uint64) float64 {
	u := scatter(state)
	switch u % 64 {
	case 0:
		return math.Float64frombits(scatter(state))
	case 1:
		return [...]float64{0, nought, inf, -inf, nan, 0x1p-1074}[u/64%6]
	}
	return math.Ldexp(unit(state)-0.5, int(u/64%9)-4)
}

// Promise 4.1, and rule 3.
func TestHornerLeavesItsList(t *testing.T) {
	room := []float64{1, 2, 3, 4, 5}
	fn.Horner(room[:3], 7)
	if !slices.Equal(room, []float64{1, 2, 3, 4, 5}) {
		t.Error(room)
	}
}

// Promise 4.2.
func TestPowEdges(t *testing.T) {
	if api.MaxPower != 1048576 {
		t.Fatal(api.MaxPower)
	}
	checkAll(t, []one{
		{"at the greatest power", fn.Pow(1, 1048576), 1},
		{"at the least power", fn.Pow(1, -1048576), 1},
		{"above it", fn.Pow(1, 1048577), nan},
		{"below it", fn.Pow(1, -1048577), nan},
		{"at the greatest int", fn.Pow(1, math.MaxInt), nan},
		{"at the least int", fn.Pow(1, math.MinInt), nan},
		{"at the least int but one", fn.Pow(1, math.MinInt+1), nan},
		{"0 above the bound", fn.Pow(0, 2000000), nan},
		{"-1 at the greatest power", fn.Pow(-1, 1048576), 1},
		{"-1 at one less", fn.Pow(-1, 1048575), -1},
		{"too great", fn.Pow(10, 309), inf},
		{"too great, odd, below 0", fn.Pow(-10, 309), -inf},
		{"too small", fn.Pow(0.5, 1075), 0},
		{"too small, odd, below 0", fn.Pow(-0.5, 1075), nought},
		{"through an infinity", fn.Pow(2, -1074), 0}, // 1 / Pow(2, 1074), and that is an infinity
		{"through an infinity, below 0", fn.Pow(-2, -1075), nought},
		{"0 to the power -1", fn.Pow(0, -1), inf},
		{"-0 to the power -1", fn.Pow(nought, -1), -inf},
		{"-0 to the power -2", fn.Pow(nought, -2), inf},
		{"-0 to the power 3", fn.Pow(nought, 3), nought},
		{"an infinity to the power -1", fn.Pow(-inf, -1), nought},
		{"an infinity to the power 2", fn.Pow(-inf, 2), inf},
		{"an infinity to the power 3", fn.Pow(-inf, 3), -inf},
		{"NaN to the power 2", fn.Pow(nan, 2), nan},
		{"NaN to the power -1", fn.Pow(nan, -1), nan},
		{"the greatest square", fn.Pow(0x1p511, 2), 0x1p1022},
	})
}

// Promise 4.2.
func TestPowSteps(t *testing.T) {
	state := uint64(42)
	numbers := 0
	for i := range 3000 {
		x := 1 + math.Ldexp(unit(&state)-0.5, -int(scatter(&state)%20))
		n := int(scatter(&state)%(1<<(1+scatter(&state)%20))) - int(scatter(&state)%64)
		switch i % 8 {
		case 0:
			x = math.Float64frombits(scatter(&state))
			n %= 40
		case 1:
			x = -x
		case 2:
			n = -n
		}
		got, want := fn.Pow(x, n), stepPow(x, n)
		if !ieee.Same(got, want) {
			t.Fatalf("Pow(%x, %d) is %x, not %x", x, n, got, want)
		}
		if isNumber(got) && got != 0 && (n > 2 || n < -2) {
			numbers++
		}
	}
	if numbers < 1000 {
		t.Errorf("only %d answers were numbers", numbers)
	}
}

// Promise 4.2: the bits that the steps tell, reckoned elsewhere.
func TestPowKnown(t *testing.T) {
	checkAll(t, []one{
		{"0x1.0cccccccccccdp+0 to the power 7", fn.Pow(0x1.0cccccccccccdp+0, 7), 0x1.6837bbb97f124p+0},
		{"0x1.0a3d70a3d70a4p+0 to the power 360", fn.Pow(0x1.0a3d70a3d70a4p+0, 360), 0x1.4adbc1d1b77acp+20},
		{"-0x1.199999999999ap+0 to the power 33", fn.Pow(-0x1.199999999999ap+0, 33), -0x1.739a3b855f7ddp+4},
		{"0x1.8p+0 to the power -5", fn.Pow(0x1.8p+0, -5), 0x1.0db20a88f4696p-3},
		{"0x1.4p+3 to the power -3", fn.Pow(0x1.4p+3, -3), 0x1.0624dd2f1a9fcp-10},
		{"0x1.4p+3 to the power 23", fn.Pow(0x1.4p+3, 23), 0x1.52d02c7e14af6p+76},
		{"0x1.000053e2d6239p+0 to the power 1048576", fn.Pow(0x1.000053e2d6239p+0, 1048576), 0x1.7a6c6dd57557ep+7},
		{"0x1.fffff583a53bp-1 to the power -1048575", fn.Pow(0x1.fffff583a53bp-1, -1048575), 0x1.6343389623b5ap+0},
		{"0x1.8p+1 to the power 34", fn.Pow(0x1.8p+1, 34), 0x1.d9fe779881944p+53},
		{"0x1.921fb54442d18p+1 to the power 100", fn.Pow(0x1.921fb54442d18p+1, 100), 0x1.1bf93d1f611f8p+165},
	})
}

// Promise 4.3: the bits that the steps tell, reckoned elsewhere, about the ends of each part of the line.
func TestExpKnown(t *testing.T) {
	for _, c := range []struct{ x, want float64 }{
		{0x1p+0, 0x1.5bf0a8b14576ap+1},
		{-0x1p+0, 0x1.78b56362cef38p-2},
		{0x1p-1, 0x1.a61298e1e069cp+0},
		{0x1.5p+4, 0x1.3a6e1fd9eecfdp+30},
		{-0x1.ep+4, 0x1.a56e0c2ac7f75p-44},
		{0x1.5ep+9, 0x1.d945df4f8ec8ep+1009},
		{-0x1.5ep+9, 0x1.14f2b0fb9307fp-1010},
		{0x1.62e42fefa39efp-2, 0x1.6a09e667f3bccp+0},
		{-0x1.62e42fefa39efp-2, 0x1.6a09e667f3bccp-1},
		{0x1.62e42fefa39fp-2, 0x1.6a09e667f3bcdp+0},
		{-0x1.62e42fefa39fp-2, 0x1.6a09e667f3bccp-1},
		{0x1.62e42fefa39eep+9, 0x1.ffffffffffb2ap+1023},
		{0x1.62e42fefa39efp+9, 0x1.fffffffffff2ap+1023},
		{0x1.62e42fefa39fp+9, inf},
		{0x1.62fffffffffffp+9, inf},
		{-0x1.6232bdd7abcd2p+9, 0x1.000000000007cp-1022},
		{-0x1.628b76e3a7b61p+9, 0x1.ffffffffffee8p-1024},
		{-0x1.74385446d71c3p+9, 0x1p-1074},
		{-0x1.74910d52d3051p+9, 0x1p-1074},
		{-0x1.74910d52d3052p+9, 0},
		{-0x1.74fffffffffffp+9, 0},
		{0x1p-1074, 0x1p+0},
		{-0x1p-60, 0x1p+0},
		{0x1.47ae147ae147bp-7, 0x1.0292a5d2f2226p+0},
		{0x1.2345678p+3, 0x1.1879b8f9f16e1p+13},
		// One term of the series more or less, or the next constant in the place of A, would tell others of these.
		{-0x1.517f716ef3afbp-2, 0x1.703da10e2b0e3p-1},
		{-0x1.3dae081bf460cp-2, 0x1.776fd92b0c989p-1},
		{-0x1.5f4098f1ce918p+9, 0x1.6a09e667f3958p-1014},
		{-0x1.5ee7dfe5d2a8ap+9, 0x1.6a09e667f37f9p-1013},
		{-0x1.5f4098f1ce917p+9, 0x1.6a09e667f3c2bp-1014},
		{-0x1.5ee7dfe5d2a89p+9, 0x1.6a09e667f3acep-1013},
		{-0x1.5d84fbb5e304fp+9, 0x1.6a09e667f3afcp-1009},
	} {
		if got := fn.Exp(c.x); !ieee.Same(got, c.want) {
			t.Errorf("Exp(%x) is %x, not %x", c.x, got, c.want)
		}
	}
}

// Promise 4.3.
func TestExpBounds(t *testing.T) {
	checkAll(t, []one{
		{"from 710 on", fn.Exp(ieee.Up(710)), inf},
		{"far above", fn.Exp(math.MaxFloat64), inf},
		{"+Inf", fn.Exp(inf), inf},
		{"just above -746", fn.Exp(ieee.Up(-746)), 0},
		{"below -746", fn.Exp(ieee.Down(-746)), 0},
		{"far below", fn.Exp(-math.MaxFloat64), 0},
		{"-Inf", fn.Exp(-inf), 0},
		{"a NaN of other bits", fn.Exp(math.Float64frombits(0xfff0000000000001)), nan},
	})
}

// Promise 4.3.
func TestExpSteps(t *testing.T) {
	state := uint64(43)
	normal, sub := 0, 0
	for i := range 6000 {
		x := unit(&state)*1458 - 747
		switch i % 6 {
		case 0:
			x = math.Ldexp(unit(&state)-0.5, -int(scatter(&state)%60))
		case 1: // about where k changes
			x = ieee.Up(math.Ln2 * (float64(int(scatter(&state)%2100)-1050) + 0.5))
		case 2: // subnormal answers
			x = -708.4 - 37*unit(&state)
		case 3:
			x = math.Float64frombits(scatter(&state))
		}
		got, want := fn.Exp(x), stepExp(x)
		if !ieee.Same(got, want) {
			t.Fatalf("Exp(%x) is %x, not %x", x, got, want)
		}
		switch ieee.Class(got) {
		case api.FNormal:
			normal++
		case api.FSub:
			sub++
		}
	}
	if normal < 2500 || sub < 700 {
		t.Errorf("only %d normal answers and %d subnormal ones", normal, sub)
	}
}

// What the steps of 4.3 are for: no answer lies far from the exponential.
func TestExpIsNear(t *testing.T) {
	state := uint64(44)
	for range 300 {
		x := unit(&state)*1400 - 700
		want, _ := exponential(x).Float64()
		if got := fn.Exp(x); apart(got, want) > 2 {
			t.Errorf("Exp(%x) is %x, and the number next to the exponential %x", x, got, want)
		}
	}
}

// exponential is e^x to some 300 bits: the series at x / 2^12, squared twelve times.
func exponential(x float64) *big.Float {
	const precision = 360
	r := new(big.Float).SetPrec(precision).SetFloat64(math.Ldexp(x, -12))
	sum := new(big.Float).SetPrec(precision).SetInt64(1)
	term := new(big.Float).Copy(sum)
	for i := int64(1); i < 120; i++ {
		term.Mul(term, r)
		term.Quo(term, new(big.Float).SetInt64(i))
		sum.Add(sum, term)
	}
	for range 12 {
		sum.Mul(sum, sum)
	}
	return sum
}

// Promise 4.4: the bits that the steps tell, reckoned elsewhere.
func TestLnKnown(t *testing.T) {
	for _, c := range []struct{ x, want float64 }{
		{0x1p+1, 0x1.62e42fefa39efp-1},
		{0x1p-1, -0x1.62e42fefa39efp-1},
		{0x1.4p+3, 0x1.26bb1bbb55516p+1},
		{0x1.7e43c8800759cp+996, 0x1.5963447f87fb5p+9},
		{0x1p-1000, -0x1.5a92d6d005c94p+9},
		{0x1.6a09e667f3bccp+0, 0x1.62e42fefa39edp-2},
		{0x1.6a09e667f3bcdp+0, 0x1.62e42fefa39f1p-2},
		{0x1.6a09e667f3bcep+0, 0x1.62e42fefa39f3p-2},
		{0x1.6a09e667f3bcdp-1, -0x1.62e42fefa39edp-2},
		{0x1.6a09e667f3bcep-1, -0x1.62e42fefa39ebp-2},
		{0x1.8p+1, 0x1.193ea7aad030bp+0},
		{0x1.0000000000001p+0, 0x1p-52},
		{0x1.fffffffffffffp-1, -0x1p-53},
		{0x1p-1074, -0x1.74385446d71c3p+9},
		{0x1.8p-1073, -0x1.73abb4f301b42p+9},
		{0x1.6a09e667f3bp-1030, -0x1.64cc29b18d1ffp+9},
		{0x1.ffffffffffffep-1023, -0x1.6232bdd7abcd2p+9},
		{0x1p-1022, -0x1.6232bdd7abcd2p+9},
		{0x1.fffffffffffffp+1023, 0x1.62e42fefa39efp+9},
		{0x1.5bf0a8b145769p+1, 0x1p+0},
		{0x1.921fb54442d18p+1, 0x1.250d048e7a1bdp+0},
		{0x1.fap-1, -0x1.82448a388a2aap-7},
		{0x1.23456789abcdep+100, 0x1.15c67238e4c6p+6},
		// So of the terms of this series, and of the bound above which m is halved.
		{0x1.6fdee269e2fb4p-1, -0x1.52870a676aa51p-2},
		{0x1.72ce607b40528p-1, -0x1.4a637f7a3e832p-2},
		{0x1.6a09e667f3bcdp-252, -0x1.5ca72d17ed3eap+7},
		{0x1.6a09e667f3bcdp-20, -0x1.b0861a6c0f69bp+3},
		{0x1.6a09e667f3bcep+5, 0x1.e7f9c1e980faap+1},
		{0x1.6a09e667f3bcep+22, 0x1.f310e368fe179p+3},
	} {
		if got := fn.Ln(c.x); !ieee.Same(got, c.want) {
			t.Errorf("Ln(%x) is %x, not %x", c.x, got, c.want)
		}
	}
}

// Promise 4.4.
func TestLnBounds(t *testing.T) {
	checkAll(t, []one{
		{"NaN", fn.Ln(nan), nan},
		{"+0", fn.Ln(0), -inf},
		{"just below 0", fn.Ln(-0x1p-1074), nan},
		{"far below 0", fn.Ln(-math.MaxFloat64), nan},
		{"-Inf", fn.Ln(-inf), nan},
	})
}

// Promise 4.4.
func TestLnSteps(t *testing.T) {
	state := uint64(45)
	numbers, sub := 0, 0
	for i := range 6000 {
		x := math.Float64frombits(scatter(&state) >> 1)
		switch i % 6 {
		case 0:
			x = 1 + math.Ldexp(unit(&state)-0.5, -int(scatter(&state)%53))
		case 1:
			x = math.Float64frombits(scatter(&state) >> (12 + scatter(&state)%52))
		case 2:
			x, _ = ieee.At(mustRank(t, 0x1.6a09e667f3bcdp+0) + int(scatter(&state)%9) - 4 + int(scatter(&state)%900)<<52)
		case 3:
			x = unit(&state) * 10
		}
		got, want := fn.Ln(x), stepLn(x)
		if !ieee.Same(got, want) {
			t.Fatalf("Ln(%x) is %x, not %x", x, got, want)
		}
		if isNumber(got) {
			numbers++
		}
		if ieee.Class(x) == api.FSub {
			sub++
		}
	}
	if numbers < 5500 || sub < 700 {
		t.Errorf("only %d answers were numbers, only %d arguments subnormal", numbers, sub)
	}
}

func mustRank(t *testing.T, x float64) int {
	t.Helper()
	n, ok := ieee.Rank(x)
	if !ok {
		t.Fatal(x)
	}
	return n
}

// What the steps of 4.4 are for: Ln undoes the exponential, as near as its own bits let it.
func TestLnIsNear(t *testing.T) {
	state := uint64(46)
	for range 300 {
		x := 1 + unit(&state)*690
		y, _ := exponential(x).Float64()
		if got := fn.Ln(y); math.Abs(got-x) > 0x1p-52*math.Max(1, x) {
			t.Errorf("Ln(%x) is %x, not %x", y, got, x)
		}
	}
}

// Promise 4.5.
func TestSpecialValues(t *testing.T) {
	checkAll(t, []one{
		{"Exp(0)", fn.Exp(0), 1}, {"Exp(-0)", fn.Exp(nought), 1}, {"Ln(1)", fn.Ln(1), 0},
	})
	state := uint64(47)
	l := []float64{0, nought, inf, -inf, nan, 0x1p-1074, -0x1p-1074, 1, -1, math.MaxFloat64, -math.MaxFloat64}
	for range 1000 {
		l = append(l, math.Float64frombits(scatter(&state)))
	}
	for _, x := range l {
		if y := fn.Pow(x, 0); !ieee.Same(y, 1) {
			t.Errorf("Pow(%x, 0) is %x", x, y)
		}
		if y := fn.Pow(x, 1); !ieee.Same(y, x) {
			t.Errorf("Pow(%x, 1) is %x", x, y)
		}
	}
}

// Promise 4.5: Exp is never below 0, and never NaN but of NaN.
func TestExpSign(t *testing.T) {
	state := uint64(48)
	for i := range 200000 {
		x := math.Float64frombits(scatter(&state))
		if i%2 == 0 {
			x = unit(&state)*1458 - 747
		}
		if y := fn.Exp(x); math.Signbit(y) && !math.IsNaN(y) || math.IsNaN(y) != math.IsNaN(x) {
			t.Fatalf("Exp(%x) is %x", x, y)
		}
	}
}

// Promise 4.6: whole numbers.
func TestPowOfWholeNumbers(t *testing.T) {
	bound := new(big.Int).Lsh(big.NewInt(1), 53)
	checked := 0
	for x := int64(-1000); x <= 1000; x++ {
		want := big.NewInt(1)
		for n := 0; n <= 60 && want.CmpAbs(bound) < 0; n++ {
			if got := fn.Pow(float64(x), n); !ieee.Same(got, float64(want.Int64())) {
				t.Fatalf("Pow(%d, %d) is %x, not %d", x, n, got, want)
			}
			want.Mul(want, big.NewInt(x))
			checked++
		}
	}
	if checked < 10000 {
		t.Error(checked)
	}
	if y := fn.Pow(94906265, 2); y != 9007199136250225 {
		t.Error(y)
	}
}

// Promise 4.6: powers of 2.
func TestPowersOf2(t *testing.T) {
	for n := -1022; n <= 1023; n++ {
		if got, want := fn.Pow(2, n), ieee.Join(1, n); !ieee.Same(got, want) {
			t.Errorf("Pow(2, %d) is %x, not %x", n, got, want)
		}
	}
}

// Promise 4.7: whatever is given, there is an answer.
func TestEveryCallEnds(t *testing.T) {
	state := uint64(49)
	for range 20000 {
		x, y := math.Float64frombits(scatter(&state)), math.Float64frombits(scatter(&state))
		fn.Pow(x, int(scatter(&state)))
		fn.Pow(x, int(scatter(&state)%2097155)-1048577)
		fn.Exp(x)
		fn.Ln(x)
		fn.Horner([]float64{x, y}, x)
	}
	long := make([]float64, 1<<20)
	long[0], long[len(long)-1] = 5, 1
	if y := fn.Horner(long, 0.5); y != 5 {
		t.Error(y)
	}
}
