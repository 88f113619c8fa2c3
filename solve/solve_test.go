package solve_test

import (
	"math"
	"slices"
	"testing"

	"tenor/api"
	"tenor/fn"
	"tenor/ieee"
	"tenor/solve"
)

// The chapter's examples.
func TestExamples(t *testing.T) {
	for _, c := range []struct {
		l      []float64
		lo, hi float64
		want   answer
	}{
		{[]float64{-2, 0, 1}, 0, 2, answer{0x1.6a09e667f3bccp+0, 64, api.OK}},
		{[]float64{-4, 0, 1}, 0, 2, answer{2, 2, api.OK}},
		{[]float64{1}, 0, 1, answer{0, 2, api.ErrBracket}},
		{[]float64{0}, -1, 1, answer{-1, 2, api.OK}},
		{[]float64{0, 1}, -1, 1, answer{0, 3, api.OK}},
		{[]float64{nan}, 0, 1, answer{0, 1, api.ErrValue}},
		{[]float64{0, 1}, 1, 1, answer{0, 0, api.ErrArg}},
		{[]float64{0, 1}, nan, 1, answer{0, 0, api.ErrArg}},
	} {
		checkPoly(t, c.l, c.lo, c.hi, c.want)
	}
}

// checkPoly holds one answer of Poly.
func checkPoly(t *testing.T, l []float64, lo, hi float64, want answer) {
	t.Helper()
	if got := told(solve.Poly(l, lo, hi)); !got.is(want) {
		t.Errorf("Poly(%x, %x, %x) is %x, %d, %v, not %x, %d, %v", l, lo, hi, got.x, got.calls, got.e, want.x, want.calls, want.e)
	}
}

// checkRoot holds one answer of Root, and that f was asked as often as it says.
func checkRoot(t *testing.T, name string, f *function, lo, hi float64, want answer) {
	t.Helper()
	f.asked = nil
	got := told(solve.Root(f.at, lo, hi))
	if !got.is(want) {
		t.Errorf("%s: Root from %x to %x is %x, %d, %v, not %x, %d, %v", name, lo, hi, got.x, got.calls, got.e, want.x, want.calls, want.e)
	}
	if got.calls != len(f.asked) {
		t.Errorf("%s: Root from %x to %x tells %d calls of %d", name, lo, hi, got.calls, len(f.asked))
	}
}

// checkAsks holds what Root tells and where it asks, in which order, against the chapter's words.
func checkAsks(t *testing.T, name string, f *function, lo, hi float64) answer {
	t.Helper()
	f.asked = nil
	want := stepRoot(f, lo, hi)
	asks := f.asked
	checkRoot(t, name, f, lo, hi, want)
	if !sameBits(f.asked, asks) {
		t.Errorf("%s: Root from %x to %x asks at %x, not at %x", name, lo, hi, f.asked, asks)
	}
	return want
}

func sameBits(l, m []float64) bool {
	return slices.EqualFunc(l, m, func(x, y float64) bool { return math.Float64bits(x) == math.Float64bits(y) })
}

// Promise 12.1: where f is asked, in which order, gone through by hand.
func TestRootHand(t *testing.T) {
	const ulp = 0x1p-52
	for _, c := range []struct {
		name   string
		f      *function
		lo, hi float64
		asks   []float64
		want   answer
	}{
		{"rises", from(1+7*ulp, -1, 1), 1, 1 + 10*ulp, []float64{1, 1 + 10*ulp, 1 + 5*ulp, 1 + 7*ulp, 1 + 6*ulp}, answer{1 + 6*ulp, 5, api.OK}},
		{"falls", from(1+7*ulp, 1, -1), 1, 1 + 10*ulp, []float64{1, 1 + 10*ulp, 1 + 5*ulp, 1 + 7*ulp, 1 + 6*ulp}, answer{1 + 6*ulp, 5, api.OK}},
		{"at the end", from(1+10*ulp, -1, 1), 1, 1 + 10*ulp, []float64{1, 1 + 10*ulp, 1 + 5*ulp, 1 + 7*ulp, 1 + 8*ulp, 1 + 9*ulp}, answer{1 + 9*ulp, 6, api.OK}},
		{"behind lo", from(1+ulp, -1, 1), 1, 1 + 10*ulp, []float64{1, 1 + 10*ulp, 1 + 5*ulp, 1 + 2*ulp, 1 + ulp}, answer{1, 5, api.OK}},
		{"about 0", from(0, -1, 1), -3 * least, 2 * least, []float64{-3 * least, 2 * least, -least, 0}, answer{-least, 4, api.OK}},
		{"behind 0", from(least, -1, 1), -3 * least, 2 * least, []float64{-3 * least, 2 * least, -least, 0, least}, answer{0, 5, api.OK}},
		{"below 0", from(-4*least, 1, -1), -6 * least, -least, []float64{-6 * least, -least, -4 * least, -5 * least}, answer{-5 * least, 4, api.OK}},
		{"a root halfway", of(func(x float64) float64 { return x - 1.5 }), 1, 2, []float64{1, 2, 1.5}, answer{1.5, 3, api.OK}},
		{"next to each other", from(ieee.Up(1), -1, 1), 1, ieee.Up(1), []float64{1, ieee.Up(1)}, answer{1, 2, api.OK}},
		{"next, below 0", from(-1, -1, 1), ieee.Down(-1), -1, []float64{ieee.Down(-1), -1}, answer{ieee.Down(-1), 2, api.OK}},
		{"next to 0", from(least, -1, 1), 0, least, []float64{0, least}, answer{0, 2, api.OK}},
		{"next to -0", from(least, 1, -1), nought, least, []float64{nought, least}, answer{nought, 2, api.OK}},
		{"from -0 on", from(least, -1, 1), nought, 3 * least, []float64{nought, 3 * least, least}, answer{nought, 3, api.OK}},
		{"up to -0", from(0, -1, 1), -3 * least, nought, []float64{-3 * least, nought, -2 * least, -least}, answer{-least, 4, api.OK}},
	} {
		checkRoot(t, c.name, c.f, c.lo, c.hi, c.want)
		if !sameBits(c.f.asked, c.asks) {
			t.Errorf("%s: asked at %x, not at %x", c.name, c.f.asked, c.asks)
		}
	}
}

// Promises 12.1 and 12.4: the same asks as the chapter's words, whatever f tells.
func TestRootAsks(t *testing.T) {
	state := uint64(121)
	ends := map[api.Errno]int{}
	for range 4000 {
		lo, hi := someBracket(&state)
		start := between(&state, lo, hi)
		below, above := someNumber(&state), someNumber(&state)
		ends[checkAsks(t, "one step", from(start, below, above), lo, hi).e]++
		salt := scatter(&state)
		ends[checkAsks(t, "any signs", of(func(x float64) float64 { return signs(salt, x) }), lo, hi).e]++
		seed := scatter(&state)
		asks := &function{tell: func(place int, _ float64) float64 {
			u := seed + uint64(place)
			return someFloat(&u)
		}}
		ends[checkAsks(t, "any answers", asks, lo, hi).e]++
	}
	for _, e := range []api.Errno{api.OK, api.ErrValue, api.ErrBracket} {
		if ends[e] < 500 {
			t.Errorf("only %d calls that end in %v", ends[e], e)
		}
	}
}

// signs is a function without any shape: its sign at one number tells nothing of the next one. Both zeros have one value.
func signs(salt uint64, x float64) float64 {
	if mixed(salt^math.Float64bits(x+0))%2 == 0 {
		return -1
	}
	return 1
}

// Promise 12.1: a NaN or a 0 that comes at each of the asks.
func TestRootPlaces(t *testing.T) {
	for _, below := range []bool{false, true} {
		first, other := 1.0, -1.0
		if below {
			first, other = other, first
		}
		for place := range mostAsks - 1 {
			for _, odd := range []float64{nan, -nan, api.Float(0x7ff0000000000001), api.Float(0xffffffffffffffff), 0, nought} {
				l := []float64{first, other}
				for i := 2; i < place; i++ {
					l = append(l, []float64{first, other}[i%2])
				}
				l = append(l[:min(place, len(l))], odd)
				if place == 0 {
					l = append(l, other) // f(hi) is asked, if f(lo) is 0
				}
				want := checkAsks(t, "odd answer", said(l...), -greatest, greatest)
				calls, e := place+1, api.OK
				if odd != odd {
					e = api.ErrValue
				} else if place == 0 {
					calls = 2
				}
				if want.calls != calls || want.e != e {
					t.Fatalf("place %d: the steps tell %v", place, want)
				}
			}
		}
	}
}

// Promise 12.1: the ends, asked both ahead of all else, but for a NaN at lo.
func TestRootEnds(t *testing.T) {
	for _, c := range []struct {
		a, b float64
		want answer
	}{
		{nan, 1, answer{0, 1, api.ErrValue}},
		{nan, 0, answer{0, 1, api.ErrValue}},
		{nan, nan, answer{0, 1, api.ErrValue}},
		{1, nan, answer{0, 2, api.ErrValue}},
		{0, nan, answer{0, 2, api.ErrValue}},
		{nought, nan, answer{0, 2, api.ErrValue}},
		{0, 1, answer{-3, 2, api.OK}},
		{nought, -1, answer{-3, 2, api.OK}},
		{0, 0, answer{-3, 2, api.OK}},
		{nought, 0, answer{-3, 2, api.OK}},
		{0, inf, answer{-3, 2, api.OK}},
		{1, 0, answer{5, 2, api.OK}},
		{-1, nought, answer{5, 2, api.OK}},
		{inf, 0, answer{5, 2, api.OK}},
		{least, nought, answer{5, 2, api.OK}},
		{1, 1, answer{0, 2, api.ErrBracket}},
		{-1, -1, answer{0, 2, api.ErrBracket}},
		{least, greatest, answer{0, 2, api.ErrBracket}},
		{-least, -inf, answer{0, 2, api.ErrBracket}},
		{inf, inf, answer{0, 2, api.ErrBracket}},
		{-inf, -inf, answer{0, 2, api.ErrBracket}},
		{inf, least, answer{0, 2, api.ErrBracket}},
	} {
		checkRoot(t, "ends", said(c.a, c.b, nan), -3, 5, c.want)
	}
	checkRoot(t, "-0 as lo", said(0), nought, 1, answer{nought, 2, api.OK})
	checkRoot(t, "-0 as hi", said(-1, 0), -1, nought, answer{nought, 2, api.OK})
	checkRoot(t, "the whole", said(-1, 0), -greatest, greatest, answer{greatest, 2, api.OK})
	checkRoot(t, "the whole", said(0, 1), -greatest, greatest, answer{-greatest, 2, api.OK})
	checkRoot(t, "0 halfway", said(1, -1, 0), -1, 1, answer{0, 3, api.OK})
	checkRoot(t, "-0 halfway", said(1, -1, nought), -1, 1, answer{0, 3, api.OK})
	for _, a := range []float64{least, 1, greatest, inf} {
		for _, b := range []float64{least, 1, greatest, inf} {
			checkRoot(t, "rises", said(-a, b, 0), 1, 2, answer{1.5, 3, api.OK})
			checkRoot(t, "falls", said(a, -b, 0), 1, 2, answer{1.5, 3, api.OK})
		}
	}
}

// Promise 12.1: f is not asked at all.
func TestRootRefusals(t *testing.T) {
	none := answer{0, 0, api.ErrArg}
	bad := []float64{nan, -nan, api.Float(0x7ff0000000000001), inf, -inf}
	good := []float64{-greatest, -1, -least, nought, 0, least, 1, greatest}
	refused := func(lo, hi float64) {
		t.Helper()
		checkRoot(t, "refused", said(-1, 1), lo, hi, none)
		checkPoly(t, []float64{0, 1}, lo, hi, none)
		checkPoly(t, []float64{nan}, lo, hi, none)
		checkPoly(t, nil, lo, hi, none)
	}
	for _, b := range bad {
		for _, g := range good {
			refused(b, g)
			refused(g, b)
		}
		for _, c := range bad {
			refused(b, c)
		}
	}
	for i, g := range good {
		for _, h := range good[:i+1] {
			refused(g, h)
		}
	}
	refused(nought, 0) // equal, as the ranks are
	for _, lo := range append(bad, good...) {
		for _, hi := range append(bad, good...) {
			if got := told(solve.Root(nil, lo, hi)); !got.is(none) {
				t.Errorf("Root(nil, %x, %x) is %v", lo, hi, got)
			}
		}
	}
}

// holdsBracket tells what 12.3 says of an answer, of a function that is not counted.
func holdsBracket(f func(float64) float64, lo, hi float64, got answer) bool {
	if got.e != api.OK || got.calls > mostAsks || got.x < lo || got.x > hi {
		return false
	}
	if f(got.x) == 0 {
		return true
	}
	next := ieee.Up(got.x)
	return next <= hi && sign(f(got.x)) != sign(f(next))
}

// Promise 12.3, with W6: where one sign ends and the other one begins.
func TestBracketStep(t *testing.T) {
	state := uint64(123)
	for range 5000 {
		lo, hi := someBracket(&state)
		start := between(&state, lo, hi)
		for _, f := range []*function{from(start, -1, 1), from(start, 1, -1), from(start, -inf, least), from(start, least, -inf)} {
			got := told(solve.Root(f.at, lo, hi))
			if got.e != api.OK || got.calls > mostAsks || got.calls != len(f.asked) || ieee.Up(got.x) != start || got.x < lo {
				t.Fatalf("the step at %x, from %x to %x: %x, %d, %v", start, lo, hi, got.x, got.calls, got.e)
			}
		}
		f := of(func(x float64) float64 { return float64(sign(x - start)) })
		got := told(solve.Root(f.at, lo, hi))
		if !holdsBracket(f.at, lo, hi, got) {
			t.Fatalf("0 at %x, from %x to %x: %x, %d, %v", start, lo, hi, got.x, got.calls, got.e)
		}
	}
}

// Promise 12.3, with W6: functions whose signs change often, or nowhere by design.
func TestBracketAny(t *testing.T) {
	state := uint64(1230)
	roots := 0
	for range 8000 {
		lo, hi := someBracket(&state)
		salt := scatter(&state)
		for _, f := range []func(float64) float64{
			func(x float64) float64 { return signs(salt, x) },
			func(x float64) float64 { return signs(salt, math.Floor(x)) },
			math.Sin,
			func(x float64) float64 { return x*(x*x-3) + float64(int(salt%5))/2 - 1 },
			func(x float64) float64 { return 1 / (x + 0) }, // no root, but a change of signs
			func(x float64) float64 { return math.Trunc(x / 8) },
		} {
			got := told(solve.Root(f, lo, hi))
			a, b := f(lo), f(hi)
			switch {
			case sign(a)*sign(b) > 0:
				if !got.is(answer{0, 2, api.ErrBracket}) {
					t.Fatalf("from %x to %x: %v", lo, hi, got)
				}
			case !holdsBracket(f, lo, hi, got):
				t.Fatalf("from %x to %x: %x, %d, %v", lo, hi, got.x, got.calls, got.e)
			default:
				roots++
			}
		}
	}
	if roots < 10000 {
		t.Errorf("only %d roots", roots)
	}
}

// Promise 12.3: how often f may be asked, at most, and that it comes to that.
func TestMostCalls(t *testing.T) {
	state := uint64(66)
	calls := map[int]int{}
	for range 3000 {
		start := between(&state, -greatest, greatest)
		f := from(start, -1, 1)
		got := told(solve.Root(f.at, -greatest, greatest))
		if ieee.Up(got.x) != start || got.calls != len(f.asked) || got.calls > mostAsks {
			t.Errorf("the step at %x: %v", start, got)
		}
		calls[got.calls]++
	}
	if calls[mostAsks] == 0 || calls[mostAsks-1] == 0 || len(calls) != 2 {
		t.Errorf("how often f was asked: %v", calls)
	}
	for gap, want := range map[uint64]int{1: 2, 2: 3, 4: 4, 64: 8, 1 << 20: 22, 1 << 52: 54} {
		low, _ := ieee.Rank(1)
		hi, _ := ieee.At(low + int(gap))
		checkRoot(t, "a power of 2", from(ieee.Up(1), -1, 1), 1, hi, answer{1, want, api.OK})
		checkRoot(t, "a power of 2", from(hi, -1, 1), 1, hi, answer{ieee.Down(hi), want, api.OK})
	}
}

// Promise 12.4: f is asked from lo to hi, and beside its signs nothing counts.
func TestSignsAlone(t *testing.T) {
	state := uint64(124)
	sizes := []float64{least, 0x1p-1022, 0.1, 1, 1e100, greatest, inf}
	for range 1500 {
		lo, hi := someBracket(&state)
		salt := scatter(&state)
		plain := of(func(x float64) float64 { return signs(salt, x) })
		want := told(solve.Root(plain.at, lo, hi))
		sized := of(func(x float64) float64 {
			return signs(salt, x) * sizes[mixed(salt+math.Float64bits(x))%uint64(len(sizes))]
		})
		checkRoot(t, "other sizes", sized, lo, hi, want)
		if !sameBits(sized.asked, plain.asked) {
			t.Errorf("from %x to %x: asked at %x, not at %x", lo, hi, sized.asked, plain.asked)
		}
		turned := of(func(x float64) float64 { return -signs(salt, x) })
		checkRoot(t, "turned", turned, lo, hi, want)
		for _, x := range plain.asked {
			if !(x >= lo && x <= hi) {
				t.Errorf("asked at %x, not from %x to %x", x, lo, hi)
			}
		}
	}
}

// Promise 12.4: a search that goes on within another one keeps to itself, and nothing stays from call to call.
func TestNested(t *testing.T) {
	inner := func(y float64) float64 {
		x, _, e := solve.Poly([]float64{-y, 0, 1}, 0, 100)
		if e != api.OK {
			t.Fatal(y, e)
		}
		return x
	}
	f := of(func(y float64) float64 { return inner(y) - 3 })
	first := told(solve.Root(f.at, 1, 1000))
	if !holdsBracket(f.at, 1, 1000, first) || math.Abs(first.x-9) > 0x1p-48 {
		t.Errorf("%x, %d, %v", first.x, first.calls, first.e)
	}
	for range 3 {
		solve.Root(said(-1, nan).at, 0, 1)
		checkRoot(t, "again", f, 1, 1000, first)
	}
}

// Promise 12.5: any ends, and functions that never tell the same again.
func TestAnything(t *testing.T) {
	state := uint64(125)
	for range 30000 {
		lo, hi := someFloat(&state), someFloat(&state)
		seed := scatter(&state)
		f := &function{tell: func(place int, x float64) float64 {
			u := seed + uint64(place)*3
			if scatter(&u)%8 != 0 {
				return float64(sign(x+0.5)) + float64(u%2)/4
			}
			return someFloat(&u)
		}}
		want := checkAsks(t, "anything", f, lo, hi)
		if len(f.asked) > mostAsks {
			t.Fatalf("from %x to %x: %d calls", lo, hi, len(f.asked))
		}
		if want.e == api.ErrArg && len(f.asked) > 0 {
			t.Fatalf("from %x to %x: asked at %x", lo, hi, f.asked)
		}
		l := []float64{someFloat(&state), someFloat(&state), someFloat(&state)}[:scatter(&state)%4]
		checkPolyIsRoot(t, l, lo, hi)
	}
	flip := &function{tell: func(place int, _ float64) float64 { return float64(1 - 2*(place%2)) }}
	checkAsks(t, "flips", flip, -greatest, greatest)
}

// checkPolyIsRoot holds Poly against the chapter's words of Root, and fn's of a polynomial.
func checkPolyIsRoot(t *testing.T, l []float64, lo, hi float64) answer {
	t.Helper()
	want := stepRoot(of(func(x float64) float64 { return fn.Horner(l, x) }), lo, hi)
	checkPoly(t, l, lo, hi, want)
	return want
}

// Promise 12.2: what the steps tell, reckoned elsewhere.
func TestPolyKnown(t *testing.T) {
	for _, c := range []struct {
		l      []float64
		lo, hi float64
		want   answer
	}{
		{[]float64{-2, 0, 1}, -2, 0, answer{-0x1.6a09e667f3bcdp+0, 64, api.OK}},
		{[]float64{-2, 0, 1}, 1, 2, answer{0x1.6a09e667f3bccp+0, 54, api.OK}},
		{[]float64{-2, 0, 1}, -greatest, 0, answer{-0x1.6a09e667f3bcdp+0, 65, api.OK}},
		{[]float64{-3, 0, 1}, 0, greatest, answer{0x1.bb67ae8584caap+0, 65, api.OK}},
		{[]float64{2, 0, -1}, 0, 2, answer{0x1.6a09e667f3bccp+0, 64, api.OK}},
		{[]float64{-1, -1, 1}, 1, 2, answer{0x1.9e3779b97f4a7p+0, 54, api.OK}},
		{[]float64{-1, -1, 0, 1}, 1, 2, answer{0x1.5320b74eca44ap+0, 54, api.OK}},
		{[]float64{1, 1, 0, 1}, -1, 0, answer{-0x1.5d5a11e52f89ap-1, 64, api.OK}},
		{[]float64{-5, -2, 0, 1}, 2, 3, answer{0x1.0c1a4350819e3p+1, 53, api.OK}},
		{[]float64{0x1.999999999999ap-4, -0x1.6666666666666p-1, 0x1.3333333333333p-2}, 0, 1, answer{0x1.39156edeb697ap-3, 63, api.OK}},
		{[]float64{-1, 3}, 0, 1, answer{0x1.5555555555555p-2, 62, api.OK}},
		{[]float64{-1, 3}, -greatest, greatest, answer{0x1.5555555555555p-2, 65, api.OK}},
		{[]float64{-1, 10}, -1, 1, answer{0x1.999999999999ap-4, 65, api.OK}},
		{[]float64{-1, 0, 0, 0, 0, 0, 0, 0, 0, 0, 2}, 0.5, 1.5, answer{0x1.ddb680117ab11p-1, 55, api.OK}},
		{[]float64{6, -11, 6, -1}, 0, 2.5, answer{0, 2, api.ErrBracket}},
		{[]float64{6, -11, 6, -1}, 1.5, 2.5, answer{0x1.0000000000001p+1, 53, api.OK}},
		{[]float64{6, -11, 6, -1}, 2.25, 100, answer{3, 55, api.OK}},
		{[]float64{-2, 0, 1}, -2, 3, answer{0, 2, api.ErrBracket}},
		{[]float64{least}, 0, 1, answer{0, 2, api.ErrBracket}},
		{[]float64{-least, 1}, 0, 1, answer{least, 63, api.OK}},
		{[]float64{2 * least, 1}, -1, 1, answer{-2 * least, 64, api.OK}},
		{[]float64{-0x1.56e1fc2f8f359p-997, 0, 1}, 0, 1, answer{0x1.a2fe76a3f9475p-499, 64, api.OK}},
		{[]float64{-0x1.7e43c8800759cp+996, 0, 0, 1}, 0, 0x1.4e718d7d7625ap+664, answer{0x1.249ad2594c37dp+332, 65, api.OK}},
		{[]float64{1, 1, 1}, -10, 10, answer{0, 2, api.ErrBracket}},
		{[]float64{0, 1}, -1, 2, answer{0, 58, api.OK}},
		{[]float64{0, 0, 0, 1}, -1, 2, answer{0x1p-1023, 3, api.OK}}, // whose cube rounds to 0
		{[]float64{0, 1}, -3, 1, answer{0, 65, api.OK}},
		{[]float64{-0x1.3333333333333p-2, 1, -1, 1}, 0, 1, answer{0x1.9390fa7d6dec8p-2, 60, api.OK}},
		{[]float64{-2000, 0, 0, 0, 0, 0, 1}, 0, 0x1.7e43c8800759cp+996, answer{0x1.c657379ecd376p+1, 65, api.OK}},
		{[]float64{5}, -1, 1, answer{0, 2, api.ErrBracket}},
		{[]float64{-5}, -1, 1, answer{0, 2, api.ErrBracket}},
		{[]float64{0, 0, 1}, -1, 1, answer{0, 2, api.ErrBracket}},
		{[]float64{0, 0, 0, 0, 1}, -0x1p-300, 1, answer{-0x1p-300, 2, api.OK}},
		{[]float64{-1, 0x1.56e1fc2f8f359p-997}, 0, greatest, answer{0x1.7e43c8800759cp+996, 65, api.OK}},
		{[]float64{1, 0, 0, -1}, nought, 2, answer{1, 12, api.OK}},
		{[]float64{-1, 0x1p+1000}, -greatest, greatest, answer{0x1p-1000, 64, api.OK}},
		{[]float64{-0x1.999999999999ap-4, 1}, 0, 1, answer{0x1.999999999999ap-4, 64, api.OK}},
		{[]float64{-0x1.fffffffffffffp-1, 0, 1}, 0, 1, answer{0x1.fffffffffffffp-1, 64, api.OK}},
		{[]float64{1, -2, 1}, 0.5, 1.5, answer{0, 2, api.ErrBracket}},
		{[]float64{-1, 3, -3, 1}, 0.5, 1.75, answer{0x1.ffffcp-1, 18, api.OK}},
		{[]float64{-1, 5, -10, 10, -5, 1}, 0.5, 1.75, answer{0x1.0029cp+0, 18, api.OK}},
	} {
		checkPoly(t, c.l, c.lo, c.hi, c.want)
	}
}

// Promise 12.2.
func TestPolyIsRoot(t *testing.T) {
	state := uint64(122)
	ends := map[api.Errno]int{}
	for range 6000 {
		var l []float64
		for range scatter(&state) % 7 {
			l = append(l, float64(int(scatter(&state)%41)-20)/4)
		}
		lo, hi := someBracket(&state)
		if scatter(&state)%2 == 0 {
			lo, hi = -float64(scatter(&state)%100)/8, 0.1+float64(scatter(&state)%100)/8
		}
		ends[checkPolyIsRoot(t, l, lo, hi).e]++
	}
	if ends[api.OK] < 2000 || ends[api.ErrBracket] < 2000 {
		t.Errorf("how the calls ended: %v", ends)
	}
}

// Promise 12.2: no coefficient, and those that are no numbers.
func TestPolyEdges(t *testing.T) {
	for _, l := range [][]float64{nil, {}, {0}, {nought}, {0, 0, 0}} {
		checkPoly(t, l, -3, 1, answer{-3, 2, api.OK})
		checkPoly(t, l, nought, 1, answer{nought, 2, api.OK})
		checkPoly(t, l, -greatest, greatest, answer{-greatest, 2, api.OK})
	}
	for _, c := range []struct {
		l      []float64
		lo, hi float64
		want   answer
	}{
		{[]float64{inf}, 0, 1, answer{0, 2, api.ErrBracket}},
		{[]float64{-inf}, 0, 1, answer{0, 2, api.ErrBracket}},
		{[]float64{1, inf}, 0, 1, answer{0, 1, api.ErrValue}},
		{[]float64{1, inf}, -1, 0, answer{0, 2, api.ErrValue}},
		{[]float64{0, inf}, -1, 1, answer{0, 3, api.ErrValue}},
		{[]float64{1, nan}, 1, 2, answer{0, 1, api.ErrValue}},
	} {
		checkPolyIsRoot(t, c.l, c.lo, c.hi)
		checkPoly(t, c.l, c.lo, c.hi, c.want)
	}
}

// What is handed in stays as it is, its spare room too.
func TestPolyKeepsNothing(t *testing.T) {
	room := []float64{7, -2, 0, 1, 8, 9}
	before := slices.Clone(room)
	first := told(solve.Poly(room[1:4], 0, 2))
	if !slices.Equal(room, before) {
		t.Errorf("%v, not %v", room, before)
	}
	room[1] = -3
	if second := told(solve.Poly(room[1:4], 0, 2)); second.x == first.x {
		t.Errorf("the list of an earlier call was kept: %v", second)
	}
	room[1] = -2
	checkPoly(t, room[1:4], 0, 2, first)
}
