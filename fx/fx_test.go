package fx_test

import (
	"math"
	"math/big"
	"slices"
	"testing"

	"tenor/api"
	"tenor/fx"
)

// given is the chapter's pairs.
func given() []api.Pair { return []api.Pair{p(1, 2, 0.5), p(3, 2, 4)} }

// The chapter's examples.
func TestExamples(t *testing.T) {
	l := given()
	checkCross(t, l, 1, 2, value(0.5))
	checkCross(t, l, 2, 1, value(2))
	checkCross(t, l, 1, 3, value(0.125))
	checkCross(t, l, 3, 1, value(8))
	checkCross(t, l, 4, 4, value(1))
	checkCross(t, l, 1, 4, wrong(api.ErrPath))
	checkCross(t, l, 0, 1, wrong(api.ErrCur))
	checkJoined(t, l, 1, 3, true, api.OK)
	checkNew(t, append(given(), p(1, 3, 2)), api.ErrLoop, 2)
	checkNew(t, append(given(), p(5, 5, 1)), api.ErrArg, 2)
	checkSum(t, l, []api.Flow{f(5, 4, 1), f(6, 1, 3)}, 2, value(6))
}

// Promise 23.1: tables that may be.
func TestNew(t *testing.T) {
	for _, l := range [][]api.Pair{
		nil,
		{},
		{p(1, 2, 1)},
		{p(8, 1, least)},
		{p(1, 8, greatest)},
		{p(1, 2, 1), p(3, 4, 1), p(5, 6, 1), p(7, 8, 1)},
		{p(1, 2, 1), p(3, 4, 1), p(2, 3, 1)},
		{p(1, 2, 1), p(2, 3, 1), p(3, 4, 1), p(4, 5, 1), p(5, 6, 1), p(6, 7, 1), p(7, 8, 1)},
		{p(2, 1, 1), p(3, 1, 1), p(1, 4, 1), p(5, 1, 1), p(1, 6, 1), p(7, 1, 1), p(1, 8, 1)},
	} {
		checkNew(t, l, api.OK, 0)
	}
	state := uint64(2310)
	for range 300 {
		checkNew(t, someTree(&state, below(&state, 8)), api.OK, 0)
	}
}

// Promise 23.1: each error by itself, at the first pair, at a later one and at the last one.
func TestNewRefused(t *testing.T) {
	bad := map[api.Errno][]api.Pair{
		api.ErrArg:  {p(1, 1, 2), p(8, 8, 2), p(5, 5, 2)},
		api.ErrLoop: {p(1, 2, 2), p(2, 1, 0.5), p(1, 3, 2), p(3, 1, 2), p(3, 2, 4), p(2, 3, 2), p(7, 1, 1), p(7, 3, 1), p(6, 4, 1)},
	}
	for _, n := range notCurrencies() {
		bad[api.ErrCur] = append(bad[api.ErrCur], p(n, 5, 1), p(5, n, 1), p(n, n, 1))
	}
	for _, x := range append(notNumbers(), 0, minus, -least, -1, -greatest) {
		bad[api.ErrValue] = append(bad[api.ErrValue], p(5, 8, x))
	}
	ahead := []api.Pair{p(1, 2, 0.5), p(3, 2, 4), p(4, 6, 1), p(7, 2, 3)}
	for e, l := range bad {
		for _, x := range l {
			checkNew(t, append(slices.Clone(ahead), x), e, 4)
			checkNew(t, append(slices.Clone(ahead), p(5, 1, 1), x), e, 5)
			checkNew(t, append(slices.Clone(ahead), x, p(0, 0, nan)), e, 4)
			if e != api.ErrLoop {
				checkNew(t, []api.Pair{x}, e, 0)
				checkNew(t, append([]api.Pair{x}, ahead...), e, 0)
			}
		}
	}
}

// Promise 23.1: of several errors the first of the first pair that may not be.
func TestNewOrder(t *testing.T) {
	for _, x := range []struct {
		bad  api.Pair
		want api.Errno
	}{
		{p(0, 0, nan), api.ErrCur},
		{p(9, 9, 1), api.ErrCur},
		{p(1, 9, 0), api.ErrCur},
		{p(0, 1, 0), api.ErrCur},
		{p(1, 1, nan), api.ErrArg},
		{p(2, 2, -1), api.ErrArg},
		{p(1, 2, 0), api.ErrValue},
		{p(2, 1, inf), api.ErrValue},
		{p(3, 1, -1), api.ErrValue},
		{p(3, 1, 1), api.ErrLoop},
	} {
		checkNew(t, append(given(), x.bad), x.want, 2)
		for _, behind := range []api.Pair{p(0, 1, 1), p(6, 6, 1), p(6, 7, 0), p(2, 3, 1)} {
			checkNew(t, append(given(), x.bad, behind), x.want, 2)
		}
	}
	// A pair that may not be joins nothing, and a table that was refused leaves nothing behind.
	checkNew(t, []api.Pair{p(1, 2, 1), p(2, 3, -1), p(1, 3, 1)}, api.ErrValue, 1)
	checkNew(t, []api.Pair{p(1, 2, 1), p(1, 3, 1)}, api.OK, 0)
}

// Promise 23.1: the length is asked ahead of all else, and 28 is not too long; since there are 8 currencies, the eighth pair that is sound closes a ring.
func TestNewLong(t *testing.T) {
	chain := []api.Pair{p(1, 2, 1), p(2, 3, 1), p(3, 4, 1), p(4, 5, 1), p(5, 6, 1), p(6, 7, 1), p(7, 8, 1)}
	for n := range 40 {
		l := make([]api.Pair, n)
		for i := range l {
			l[i] = p(0, 0, 0)
		}
		copy(l, chain)
		want, place := api.OK, 0
		switch {
		case n > 28:
			want = api.ErrLong
		case n > 7:
			want, place = api.ErrCur, 7
		}
		checkNew(t, l, want, place)
		if n > 7 {
			l[7] = p(3, 6, 1)
			if n <= 28 {
				want = api.ErrLoop
			}
			checkNew(t, l, want, place)
		}
	}
	checkNew(t, make([]api.Pair, 100000), api.ErrLong, 0)
}

// somePair is one of all that may be, and now and then one that may not.
func somePair(state *uint64) api.Pair {
	x := p(1+below(state, top), 1+below(state, top), someRate(state))
	switch below(state, 30) {
	case 0:
		x.A = notCurrencies()[below(state, 7)]
	case 1:
		x.B = notCurrencies()[below(state, 7)]
	case 2:
		x.X = append(notNumbers(), 0, minus, -1)[below(state, 6)]
	}
	return x
}

// Promises 23.1 and 23.2: pairs as they come, till one may not be; each pair of currencies is joined or not, as the islands tell.
func TestNewSteps(t *testing.T) {
	state := uint64(231)
	faults, met := map[api.Errno]int{}, [2]int{}
	for range 3000 {
		var l []api.Pair
		for range below(&state, 12) {
			l = append(l, somePair(&state))
		}
		e, at := stepNew(l)
		checkNew(t, l, e, at)
		faults[e]++
		if e != api.OK {
			l = l[:at]
		}
		x, g := table(t, l...), islands(l)
		for a := 1; a <= top; a++ {
			for b := 1; b <= top; b++ {
				want := g[a] == g[b]
				if is, e := x.Joined(a, b); is != want || e != api.OK {
					t.Fatalf("%v: Joined(%d, %d) is %v, %v", l, a, b, is, e)
				}
				if want && a != b {
					met[1]++
				} else if !want {
					met[0]++
				}
			}
		}
	}
	for _, e := range []api.Errno{api.OK, api.ErrCur, api.ErrArg, api.ErrValue, api.ErrLoop} {
		if faults[e] < 100 {
			t.Errorf("%v came only %d times", e, faults[e])
		}
	}
	if min(met[0], met[1]) < 10000 {
		t.Errorf("joined or not: %v", met)
	}
}

// Promise 23.2: what is no currency.
func TestNoCurrency(t *testing.T) {
	for _, l := range [][]api.Pair{nil, given()} {
		for _, n := range notCurrencies() {
			for _, m := range append(notCurrencies(), 1, 2, 8) {
				checkJoined(t, l, n, m, false, api.ErrCur)
				checkJoined(t, l, m, n, false, api.ErrCur)
				checkCross(t, l, n, m, wrong(api.ErrCur))
				checkCross(t, l, m, n, wrong(api.ErrCur))
			}
		}
	}
}

// Promise 23.2: currencies that are the same, and those that nothing joins.
func TestAlone(t *testing.T) {
	for _, l := range [][]api.Pair{nil, given(), {p(1, 2, least), p(2, 3, greatest), p(7, 8, greatest)}} {
		g := islands(l)
		for a := 1; a <= top; a++ {
			checkJoined(t, l, a, a, true, api.OK)
			checkCross(t, l, a, a, value(1))
			for b := 1; b <= top; b++ {
				checkJoined(t, l, a, b, g[a] == g[b], api.OK)
				if g[a] != g[b] {
					checkCross(t, l, a, b, wrong(api.ErrPath))
				}
			}
		}
	}
	// Two islands, and what joins them.
	l := []api.Pair{p(1, 2, 2), p(3, 4, 3)}
	checkCross(t, l, 1, 4, wrong(api.ErrPath))
	checkJoined(t, l, 1, 4, false, api.OK)
	l = append(l, p(4, 1, 5))
	checkCross(t, l, 1, 4, value(0.2))
	checkCross(t, l, 3, 2, value(30))
	checkJoined(t, l, 2, 3, true, api.OK)
}

// knownTables is pairs, and all rates between the 8 currencies, reckoned elsewhere; nan where there is no way, inf where the rate is no number above 0.
func knownTables() []struct {
	l    []api.Pair
	want [8][8]float64
} {
	return []struct {
		l    []api.Pair
		want [8][8]float64
	}{
		{
			[]api.Pair{p(1, 2, 1.0842), p(3, 2, 0.0061275), p(1, 4, 0.8361), p(5, 4, 0.8907), p(6, 1, 0.65915), p(1, 7, 7.2431), p(8, 5, 0.0923)},
			[8][8]float64{
				{0x1p+0, 0x1.158e219652bd4p+0, 0x1.61e14ae37c659p+7, 0x1.ac154c985f06fp-1, 0x1.e09d45ed8c496p-1, 0x1.8461045e880c9p+0, 0x1.cf8ef34d6a162p+2, 0x1.45716e0895a21p+3},
				{0x1.d83cd2fee9f24p-1, 0x1p+0, 0x1.4665bb4615842p+7, 0x1.8ad67d85500b5p-1, 0x1.bb4a14f4fa794p-1, 0x1.66379372d0e17p+0, 0x1.ab8eda144e643p+2, 0x1.2c2b3ad85d0e3p+3},
				{0x1.7262a8edc7f47p-8, 0x1.9192641b328b7p-8, 0x1p+0, 0x1.35ade1ab9202dp-8, 0x1.5bae4435dc4a5p-8, 0x1.18f4f2de5a6ddp-7, 0x1.4f57a121b405bp-5, 0x1.d6db5d353ff7fp-5},
				{0x1.322ef7f287264p+0, 0x1.4bf6d082cd345p+0, 0x1.a74038bf009ebp+7, 0x1p+0, 0x1.1f6a15abc99fp+0, 0x1.d08338d15392p+0, 0x1.1536f5be2ba97p+3, 0x1.853d4b1cca9a6p+3},
				{0x1.10b7b5c7f7eacp+0, 0x1.27ae316006644p+0, 0x1.78fd52e6f392bp+7, 0x1.c809d495182aap-1, 0x1p+0, 0x1.9dbdc9c687bf9p+0, 0x1.edd48adc581f3p+2, 0x1.5ab210163042ap+3},
				{0x1.517c1bda5119dp-1, 0x1.6de6a941d83cap-1, 0x1.d285233649cdap+6, 0x1.1a2bc95c7fddbp-1, 0x1.3ccc04c304a63p-1, 0x1p+0, 0x1.318df4fb1432fp+2, 0x1.ad081833196f2p+2},
				{0x1.1ac079ec2fa86p-3, 0x1.328f3fc908753p-3, 0x1.86dc3e00bb9cep+4, 0x1.d8d1523a4f7d1p-4, 0x1.096b4cf0ef9a7p-3, 0x1.acf6e08b9591ep-3, 0x1p+0, 0x1.6773a346d96e2p+0},
				{0x1.92bfd734d486p-4, 0x1.b4a92f1cc294p-4, 0x1.165e7c16ab40bp+4, 0x1.50bd1f04d2f89p-4, 0x1.7a0f9096bb98cp-4, 0x1.3181b1de2a7bap-3, 0x1.6ca4edb3e7c6bp-1, 0x1p+0},
			},
		},
		{
			[]api.Pair{p(1, 2, 0.7071067811865476), p(3, 2, 1.4142135623730951), p(3, 4, 2.718281828459045), p(5, 4, 3.141592653589793), p(5, 6, 0.5772156649015329), p(6, 7, 1.618033988749895), p(8, 7, 0.6931471805599453)},
			[8][8]float64{
				{0x1p+0, 0x1.6a09e667f3bcdp-1, 0x1p-1, 0x1.5bf0a8b145769p+0, 0x1.bb02d4eca8f95p-2, 0x1.ff6d046d75d1cp-3, 0x1.9dc09061099cbp-2, 0x1.2a758943d94e6p-1},
				{0x1.6a09e667f3bccp+0, 0x1p+0, 0x1.6a09e667f3bccp-1, 0x1.ec0fc3281b1e4p+0, 0x1.39419174493e9p-1, 0x1.69a1f7b1c71c3p-2, 0x1.24912628a7908p-1, 0x1.a615beda8f725p-1},
				{0x1p+1, 0x1.6a09e667f3bcdp+0, 0x1p+0, 0x1.5bf0a8b145769p+1, 0x1.bb02d4eca8f95p-1, 0x1.ff6d046d75d1cp-2, 0x1.9dc09061099cbp-1, 0x1.2a758943d94e6p+0},
				{0x1.78b56362cef38p-1, 0x1.0a5f87fb1306bp-1, 0x1.78b56362cef38p-2, 0x1p+0, 0x1.45f306dc9c883p-2, 0x1.78493e90ba294p-3, 0x1.306bfeeae260ap-2, 0x1.b7301a945a7ep-2},
				{0x1.27ddbf6271dbep+1, 0x1.a26b01b64d531p+0, 0x1.27ddbf6271dbep+0, 0x1.921fb54442d18p+1, 0x1p+0, 0x1.2788cfc6fb619p-1, 0x1.de2f4aee3d4dep-1, 0x1.58eff7c526225p+0},
				{0x1.004992e84fe99p+2, 0x1.6a71f2fcd6c4cp+1, 0x1.004992e84fe99p+1, 0x1.5c54a7fc5eee1p+2, 0x1.bb8226f502bf8p+0, 0x1p+0, 0x1.9e3779b97f4a8p+0, 0x1.2acb500ddd9fp+1},
				{0x1.3cc9e4acd88abp+1, 0x1.c001bd937a935p+0, 0x1.3cc9e4acd88abp+0, 0x1.ae8f76fc872cbp+1, 0x1.121a6fe378545p+0, 0x1.3c6ef372fe94fp-1, 0x1p+0, 0x1.71547652b82fep+0},
				{0x1.b7298d5849522p+0, 0x1.3688decb3c4f2p+0, 0x1.b7298d5849522p-1, 0x1.2a71157746e6ap+1, 0x1.7bfce197a366p-1, 0x1.b6ab7ab66afb3p-2, 0x1.62e42fefa39efp-1, 0x1p+0},
			},
		},
		{
			[]api.Pair{p(4, 1, 1e+300), p(4, 2, 3e-300), p(4, 3, 1e-310), p(5, 4, 7e-12), p(6, 5, greatest), p(6, 7, least)},
			[8][8]float64{
				{0x1p+0, inf, inf, 0x1.56e1fc2f8f359p-997, 0x1.64666a05beaaep-960, inf, inf, nan},
				{inf, 0x1p+0, 0x1.2533fe68fd3c2p-35, 0x1.fdafb60009ccfp+994, inf, 0x1.08e3c655101d5p+8, 0x0.0000000000109p-1022, nan},
				{inf, 0x1.bf08eb0000019p+34, 0x1p+0, inf, inf, 0x1.ce8ef195d0dd6p+42, 0x0.0073a3bc65743p-1022, nan},
				{0x1.7e43c8800759cp+996, 0x1.01297d23ab683p-995, 0x0.012688b70e62bp-1022, 0x1p+0, 0x1.0a17981249249p+37, 0x1.0a1798124924ap-987, inf, nan},
				{0x1.6fc4392c61b9ep+959, 0x0.003dda267119ep-1022, 0x0.000000000008ep-1022, 0x1.ec94ca210599ep-38, 0x1p+0, 0x0.4p-1022, inf, nan},
				{inf, 0x1.eed13388cec2fp-9, 0x1.1b5cf7b3ac3efp-43, 0x1.ec94ca210599dp+986, 0x1.fffffffffffffp+1023, 0x1p+0, 0x0.0000000000001p-1022, nan},
				{inf, inf, inf, inf, inf, inf, 0x1p+0, nan},
				{nan, nan, nan, nan, nan, nan, nan, 0x1p+0},
			},
		},
		{
			[]api.Pair{p(2, 8, 0.1), p(8, 7, 0.7), p(7, 3, 0.3333333333333333), p(5, 3, 10.0)},
			[8][8]float64{
				{0x1p+0, nan, nan, nan, nan, nan, nan, nan},
				{nan, 0x1p+0, 0x1.7e4b17e4b17e4p-6, nan, 0x1.31d5acb6f465p-9, nan, 0x1.1eb851eb851ebp-4, 0x1.999999999999ap-4},
				{nan, 0x1.56db6db6db6dcp+5, 0x1p+0, nan, 0x1.999999999999ap-4, nan, 0x1.8p+1, 0x1.124924924924ap+2},
				{nan, nan, nan, 0x1p+0, nan, nan, nan, nan},
				{nan, 0x1.ac92492492493p+8, 0x1.4p+3, nan, 0x1p+0, nan, 0x1.ep+4, 0x1.56db6db6db6dcp+5},
				{nan, nan, nan, nan, nan, 0x1p+0, nan, nan},
				{nan, 0x1.c924924924925p+3, 0x1.5555555555555p-2, nan, 0x1.1111111111111p-5, nan, 0x1p+0, 0x1.6db6db6db6db7p+0},
				{nan, 0x1.4p+3, 0x1.dddddddddddddp-3, nan, 0x1.7e4b17e4b17e4p-6, nan, 0x1.6666666666666p-1, 0x1p+0},
			},
		},
	}
}

// Promise 23.2: bits, reckoned elsewhere; the order of the pairs makes nothing.
func TestCrossKnown(t *testing.T) {
	state := uint64(2321)
	for _, x := range knownTables() {
		for range 4 {
			for i, row := range x.want {
				for j, want := range row {
					switch {
					case math.IsNaN(want):
						checkCross(t, x.l, i+1, j+1, wrong(api.ErrPath))
					case want == inf:
						checkCross(t, x.l, i+1, j+1, wrong(api.ErrValue))
					default:
						checkCross(t, x.l, i+1, j+1, value(want))
					}
				}
			}
			x.l = mixed(&state, x.l)
		}
	}
}

// along is a way from 1 on, over the currencies in their order: a rate above 0 is gone from A to B, one below 0 is its size, gone from B to A.
func along(rates []float64) []api.Pair {
	var l []api.Pair
	for i, x := range rates {
		if x > 0 {
			l = append(l, p(i+1, i+2, x))
		} else {
			l = append(l, p(i+2, i+1, -x))
		}
	}
	return l
}

const (
	bit   = 1 + 0x1p-52
	under = 1 - 0x1p-52             // bit * under is 1 - 2^-104
	half  = 0x1.5555555555556p-2    // 3 * half is 1 + 2^-53, which lies between two numbers
	odd   = 0x1.8000000000001p+0    // 0x1.8p+0 and the last bit
	full  = 0x1.fffffffffffffp+0    // all bits of a number
	left  = (0x1p27 - 1) * 0x1p+900 // left * right is 2^1024 - 2^970: the least real that is near an infinity
	right = (0x1p27 + 1) * 0x1p+70
)

// Promise 23.2: products and quotients that lie between two numbers, or just beside that place, and at the ends of the numbers.
func TestCrossHand(t *testing.T) {
	for _, x := range []struct {
		rates []float64
		want  float64 // 0 of ErrValue
	}{
		{[]float64{3, half}, 1},
		{[]float64{half, 3}, 1},
		{[]float64{3, half, bit, under}, 1},
		{[]float64{3, half, -bit, -under}, bit},
		{[]float64{bit, under, half, 3}, 1},
		{[]float64{-under, half, -bit, 3}, bit},
		{[]float64{3, half, bit, under, -bit, -under}, 1},
		{[]float64{3, half, 0.1, -0.1}, 1},
		{[]float64{-full, 3, full, half}, 1},
		{[]float64{-full, 3, full, half, -bit, -under}, bit},
		{[]float64{-full, 3, full, half, bit, under}, 1},
		{[]float64{-3, -half}, 1 - 0x1p-53},
		{[]float64{bit, bit}, 1 + 0x1p-51},
		{[]float64{-bit, -bit}, 1 - 0x1p-51},
		{[]float64{bit, under}, 1},
		{[]float64{-bit, -under}, 1},
		{[]float64{bit, -under}, 1 + 0x1p-51},
		{[]float64{0.1, 0.2}, 0x1.47ae147ae147cp-6},
		{[]float64{0.1, -0.3}, 0x1.5555555555556p-2},
		{[]float64{1, -3}, 0x1.5555555555555p-2},
		{[]float64{1, -3, 3}, 1},
		{[]float64{-3, -3, -3, 9, 3}, 1},
		{[]float64{-49, 49}, 1},
		{[]float64{-0.1, -0.1, -0.1, 0.1, 0.1, 0.1}, 1},
		{[]float64{full, full, full, full, full, full, full}, 0x1.ffffffffffff9p+6},
		{[]float64{-full, -full, -full, -full, -full, -full, -full}, 0x1.0000000000004p-7},
		{[]float64{full, full, full, full, -full, -full, -full}, full},
		{[]float64{full, -full, full, -full, full, -full, full}, full},
		{[]float64{-full, full, -full, full, -full, full, -full}, 0x1.0000000000001p-1},
		// Halfway between two numbers, and a bit, that lies 104 places behind.
		{[]float64{odd, 0x1p-1074}, 2 * least},
		{[]float64{1.5, 0x1p-1074}, 2 * least},
		{[]float64{1.5, bit, 0x1p-1074, under}, least},
		{[]float64{2.5, 0x1p-1074}, 2 * least},
		{[]float64{2.5, -bit, 0x1p-1074, -under}, 3 * least},
		{[]float64{0x1p-1074, 3.5}, 4 * least},
		{[]float64{0x1p-1074, 3.5, under, bit}, 3 * least},
		{[]float64{0x1p-1022 - least, bit}, 0x1p-1022},
		{[]float64{0x1p-1022, 1 - 0x1p-53}, 0x1p-1022},
		{[]float64{0x1p-1022, 1 - 0x1p-53, bit, under}, 0x1p-1022 - least},
		// About 0.
		{[]float64{least, 0.5}, 0},
		{[]float64{least, -2}, 0},
		{[]float64{least, 0.5, bit, under}, 0},
		{[]float64{least, 0.5, -bit, -under}, least},
		{[]float64{least, 0.5, bit}, least},
		{[]float64{least, 0.75}, least},
		{[]float64{least, 0.25}, 0},
		{[]float64{least, least}, 0},
		{[]float64{least, least, least, least, least, least, least}, 0},
		{[]float64{-greatest, -greatest}, 0},
		{[]float64{least, -greatest, least, -greatest, least, -greatest, least}, 0},
		{[]float64{-greatest}, 0x0.4p-1022},
		{[]float64{-0x1p1023, -0x1p51}, least},
		{[]float64{-0x1p1023, -0x1p52}, 0},
		{[]float64{-0x1p1023, -0x1p52, -under}, least},
		// About the greatest number.
		{[]float64{left, right}, 0},
		{[]float64{right, left}, 0},
		{[]float64{left, bit, right, under}, greatest},
		{[]float64{left, right, 1 - 0x1p-53}, greatest},
		{[]float64{left, right, -bit}, 0x1.ffffffffffffep+1023},
		{[]float64{left, -bit, right, -under}, 0},
		{[]float64{greatest, bit}, 0},
		{[]float64{greatest, 2}, 0},
		{[]float64{greatest, 2, 0.5}, greatest},
		{[]float64{greatest, greatest, greatest, -greatest, -greatest}, greatest},
		{[]float64{greatest, greatest, greatest, greatest, greatest, greatest, greatest}, 0},
		{[]float64{-least}, 0},
		{[]float64{-0x1p-1024}, 0},
		{[]float64{-(0x1p-1024 + least)}, 0x1.ffffffffffff8p+1023}, // 2^1024 / (1 + 2^-50)
		{[]float64{-least, -least, -least, -least, -least, -least, -least}, 0},
		{[]float64{greatest, -least, greatest, -least, greatest, -least, greatest}, 0},
		{[]float64{-least, least}, 1},
		{[]float64{-least, 3 * least}, 3},
		{[]float64{-3 * least, least}, 0x1.5555555555555p-2},
		{[]float64{-least, -least, least, least, -least, least, 7}, 7},
		{[]float64{greatest, -greatest, greatest, -greatest, least, -least}, 1},
	} {
		l, end := along(x.rates), len(x.rates)+1
		want := value(x.want)
		if x.want == 0 {
			want = wrong(api.ErrValue)
		}
		if step := stepCross(l, 1, end); !step.is(want) {
			t.Errorf("%x: the row tells %x, %v, and the chapter %x, %v", x.rates, want.x, want.e, step.x, step.e)
		}
		checkCross(t, l, 1, end, want)
		slices.Reverse(l)
		checkCross(t, l, 1, end, want)
		// The way back, whose quotient is the other way up.
		checkCross(t, l, end, 1, stepCross(l, end, 1))
	}
}

// Promise 23.2: all sorts of trees.
func TestCrossSteps(t *testing.T) {
	state := uint64(232)
	told := map[api.Errno]int{}
	for range 1200 {
		l := someTree(&state, 1+below(&state, 7))
		x := table(t, l...)
		for a := 1; a <= top; a++ {
			for b := 1; b <= top; b++ {
				want := stepCross(l, a, b)
				got, e := x.Cross(a, b)
				if !(answer{got, e}).is(want) {
					t.Errorf("%x: Cross(%d, %d) is %x, %v, not %x, %v", l, a, b, got, e, want.x, want.e)
				}
				told[want.e]++
			}
		}
	}
	if told[api.OK] < 20000 || told[api.ErrPath] < 5000 || told[api.ErrValue] < 1500 {
		t.Errorf("only %v", told)
	}
}

// Promise 23.4, W14: a quoted rate is told to the bit, and backwards near of 1 / X; the order of the quotes makes nothing.
func TestQuoted(t *testing.T) {
	state := uint64(234)
	lost := 0
	for range 600 {
		l := someTree(&state, 1+below(&state, 7))
		for _, x := range l {
			checkCross(t, l, x.A, x.B, value(x.X))
			back := near(new(big.Rat).Inv(rational(x.X)))
			if back == inf {
				lost++
				checkCross(t, l, x.B, x.A, wrong(api.ErrValue))
			} else {
				checkCross(t, l, x.B, x.A, value(back))
			}
		}
		checkAlike(t, l, mixed(&state, l))
	}
	if lost < 20 {
		t.Errorf("only %d rates cannot be turned", lost)
	}
	for _, x := range []float64{least, 0x1p-1022 - least, 0x1p-1022, 0.1, 1, full, 1e300, greatest} {
		checkCross(t, []api.Pair{p(4, 7, x)}, 4, 7, value(x))
	}
}

// checkAlike holds that two lists of pairs make tables that tell the same.
func checkAlike(t *testing.T, l, m []api.Pair) {
	t.Helper()
	x, y := table(t, l...), table(t, m...)
	for a := -1; a <= top+2; a++ {
		for b := -1; b <= top+2; b++ {
			if u, v := told(x.Cross(a, b)), told(y.Cross(a, b)); !u.is(v) {
				t.Errorf("Cross(%d, %d): %v tells %x, %v, and %v tells %x, %v", a, b, l, u.x, u.e, m, v.x, v.e)
			}
			u, e := x.Joined(a, b)
			if v, w := y.Joined(a, b); u != v || e != w {
				t.Errorf("Joined(%d, %d): %v tells %v, %v, and %v tells %v, %v", a, b, l, u, e, m, v, w)
			}
		}
	}
}

// Promise 23.4, W14: each order of the quotes of a tree of four currencies.
func TestEachOrder(t *testing.T) {
	l := []api.Pair{p(1, 2, 0.1), p(3, 2, 0.7), p(3, 4, 1e-5), p(5, 2, 3)}
	var order func(done, left []api.Pair)
	tried := 0
	order = func(done, left []api.Pair) {
		if len(left) == 0 {
			checkAlike(t, l, done)
			tried++
		}
		for i := range left {
			order(append(slices.Clone(done), left[i]), slices.Delete(slices.Clone(left), i, i+1))
		}
	}
	order(nil, l)
	if tried != 24 {
		t.Error(tried)
	}
}

// Promise 23.5: a pair that is turned round, with a power of 2, changes nothing.
func TestTurnedRound(t *testing.T) {
	state := uint64(235)
	for range 300 {
		l := plainTree(&state, 1+below(&state, 7))
		for i := range l {
			if below(&state, 2) == 0 {
				l[i].X = someRate(&state) // one that stays as it is
			}
		}
		m := slices.Clone(l)
		for i, x := range m {
			if frac, exp := math.Frexp(x.X); frac == 0.5 && exp > -1000 && exp < 1000 {
				m[i] = turned(x)
			}
		}
		checkAlike(t, l, m)
		flows := someFlows(&state, 6, top)
		for to := 1; to <= top; to++ {
			want, e := table(t, l...).Convert(flows, to)
			checkConvert(t, m, flows, to, want, e)
			checkSum(t, m, flows, to, told(table(t, l...).Sum(flows, to)))
		}
	}
	checkAlike(t, []api.Pair{p(1, 2, 0x1p-1022), p(2, 3, 0x1p1022)}, []api.Pair{p(2, 1, 0x1p1022), p(3, 2, 0x1p-1022)})
}

// Promise 23.5: Joined goes both ways, and from one to the next; where it is so, Cross knows a way.
func TestJoined(t *testing.T) {
	state := uint64(2351)
	for range 300 {
		x := table(t, plainTree(&state, below(&state, 8))...)
		joined := func(a, b int) bool {
			is, e := x.Joined(a, b)
			if e != api.OK {
				t.Errorf("Joined(%d, %d): %v", a, b, e)
			}
			return is
		}
		for a := 1; a <= top; a++ {
			for b := 1; b <= top; b++ {
				is := joined(a, b)
				if is != joined(b, a) {
					t.Errorf("%v: Joined(%d, %d) is %v, and not back", x, a, b, is)
				}
				if _, e := x.Cross(a, b); (e == api.OK) != is || (e == api.ErrPath) == is {
					t.Errorf("%v: Joined(%d, %d) is %v, and Cross tells %v", x, a, b, is, e)
				}
				for c := 1; c <= top; c++ {
					if is && joined(b, c) && !joined(a, c) {
						t.Errorf("%v: %d, %d and %d", x, a, b, c)
					}
				}
			}
		}
	}
}

// Promise 23.7 and DOC.md, rule 3: pairs stay as they were, their spare room too, and are not kept.
func TestPairsNotKept(t *testing.T) {
	spare := []api.Pair{p(1, 2, 0.5), p(3, 2, 4), p(4, 3, 3), p(7, 7, 7), p(8, 8, 8)}
	before := slices.Clone(spare)
	l := spare[:3]
	x := table(t, l...)
	one, _, _ := fx.New(l)
	other, _, _ := fx.New(l)
	if !slices.Equal(spare, before) {
		t.Errorf("New made %v of the pairs", spare)
	}
	for i := range spare {
		spare[i] = p(5, 6, 99)
	}
	for _, y := range []*fx.Table{x, one, other} {
		for range 2 {
			if v, e := y.Cross(1, 4); v != 1.0/24 || e != api.OK {
				t.Errorf("Cross(1, 4) is %x, %v", v, e)
			}
			if is, e := y.Joined(5, 6); is || e != api.OK {
				t.Errorf("Joined(5, 6) is %v, %v", is, e)
			}
		}
	}
}
