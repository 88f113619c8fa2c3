package rate_test

import (
	"math"
	"testing"

	"tenor/api"
	"tenor/ieee"
	"tenor/rate"
)

// The chapter's examples.
func TestExamples(t *testing.T) {
	for _, c := range []struct {
		name      string
		got, want answer
	}{
		{"Factor(KSimple, 0.25, 1)", told(rate.Factor(api.KSimple, 0.25, 1)), answer{0.8, api.OK}},
		{"Factor(KSimple, -2, 1)", told(rate.Factor(api.KSimple, -2, 1)), wrong(api.ErrValue)},
		{"Factor(KAnnual, -1, 1)", told(rate.Factor(api.KAnnual, -1, 1)), wrong(api.ErrValue)},
		{"Factor(KCont, 0, 5)", told(rate.Factor(api.KCont, 0, 5)), answer{1, api.OK}},
		{"Factor(9, 0, 0)", told(rate.Factor(9, 0, 0)), wrong(api.ErrKind)},
		{"Factor(KCont, NaN, 1)", told(rate.Factor(api.KCont, nan, 1)), wrong(api.ErrValue)},
		{"Factor(KCont, 1000, 1)", told(rate.Factor(api.KCont, 1000, 1)), wrong(api.ErrValue)},
		{"Yield(KSimple, 0.8, 1)", told(rate.Yield(api.KSimple, 0.8, 1)), answer{0.25, api.OK}},
		{"Yield(KSimple, 0.5, 0)", told(rate.Yield(api.KSimple, 0.5, 0)), wrong(api.ErrValue)},
		{"Forward(1, 0.5, 2)", told(rate.Forward(1, 0.5, 2)), answer{0.5, api.OK}},
	} {
		if !c.got.is(c.want) {
			t.Errorf("%s is %v, not %v", c.name, c.got, c.want)
		}
	}
}

// checkFactor holds one answer of Factor.
func checkFactor(t *testing.T, kind int, r, time float64, want answer) {
	t.Helper()
	if got := told(rate.Factor(kind, r, time)); !got.is(want) {
		t.Errorf("Factor(%d, %x, %x) is %x, %v, not %x, %v", kind, r, time, got.x, got.e, want.x, want.e)
	}
}

// checkYield holds one answer of Yield.
func checkYield(t *testing.T, kind int, f, time float64, want answer) {
	t.Helper()
	if got := told(rate.Yield(kind, f, time)); !got.is(want) {
		t.Errorf("Yield(%d, %x, %x) is %x, %v, not %x, %v", kind, f, time, got.x, got.e, want.x, want.e)
	}
}

// checkForward holds one answer of Forward.
func checkForward(t *testing.T, near, far, time float64, want answer) {
	t.Helper()
	if got := told(rate.Forward(near, far, time)); !got.is(want) {
		t.Errorf("Forward(%x, %x, %x) is %x, %v, not %x, %v", near, far, time, got.x, got.e, want.x, want.e)
	}
}

// checkConvert holds one answer of Convert.
func checkConvert(t *testing.T, from, to int, r, time float64, want answer) {
	t.Helper()
	if got := told(rate.Convert(from, to, r, time)); !got.is(want) {
		t.Errorf("Convert(%d, %d, %x, %x) is %x, %v, not %x, %v", from, to, r, time, got.x, got.e, want.x, want.e)
	}
}

// Promise 9.1: the bits that the steps tell, reckoned elsewhere.
func TestFactorKnown(t *testing.T) {
	for _, c := range []struct {
		kind          int
		r, time, want float64
	}{
		{api.KSimple, 0x1.999999999999ap-5, 0x1p+1, 0x1.d1745d1745d17p-1},
		{api.KSimple, 0x1.3333333333333p-5, 0x1.999999999999ap-4, 0x1.fe1650f9f155dp-1},
		{api.KSimple, -0x1.47ae147ae147bp-7, 0x1.ep+4, 0x1.6db6db6db6db7p+0},
		{api.KSimple, 0x1.3333333333333p-2, 0x1.5555555555555p-2, 0x1.d1745d1745d17p-1},
		{api.KSimple, 0x1.4p+1, 0x1.9266666666666p+5, 0x1.02864fc7729e9p-7},
		{api.KAnnual, 0x1.999999999999ap-5, 0x1p+1, 0x1.d0662af4f8741p-1},
		{api.KAnnual, 0x1.3333333333333p-5, 0x1.999999999999ap-4, 0x1.fe1e5be6dc532p-1},
		{api.KAnnual, -0x1.47ae147ae147bp-7, 0x1.ep+4, 0x1.5a16091bc57a7p+0},
		{api.KAnnual, 0x1.3333333333333p-2, 0x1.5555555555555p-2, 0x1.d52012d6cfcd2p-1},
		{api.KAnnual, -0x1.ccccccccccccdp-1, 0x1.c666666666666p+2, 0x1.80318c3c62d9bp+23},
		{api.KAnnual, 0x1.4p+1, 0x1.9266666666666p+5, 0x1.107cdb6b37a33p-91},
		{api.KSemi, 0x1.999999999999ap-5, 0x1p+1, 0x1.cfd8c34e68fdcp-1},
		{api.KSemi, 0x1.3333333333333p-5, 0x1.999999999999ap-4, 0x1.fe19ef47e5858p-1},
		{api.KSemi, -0x1.47ae147ae147bp-7, 0x1.ep+4, 0x1.59d2f12ed11a1p+0},
		{api.KSemi, 0x1.3333333333333p-2, 0x1.5555555555555p-2, 0x1.d27319a00eba2p-1},
		{api.KSemi, -0x1.ccccccccccccdp-1, 0x1.c666666666666p+2, 0x1.2fe63e56ed784p+12},
		{api.KSemi, 0x1.4p+1, 0x1.9266666666666p+5, 0x1.3c62fa9d92c3fp-118},
		{api.KQuarter, 0x1.999999999999ap-5, 0x1p+1, 0x1.cf906299a6e28p-1},
		{api.KQuarter, 0x1.3333333333333p-5, 0x1.999999999999ap-4, 0x1.fe17ae7d490d5p-1},
		{api.KQuarter, -0x1.47ae147ae147bp-7, 0x1.ep+4, 0x1.59b19523e892cp+0},
		{api.KQuarter, 0x1.3333333333333p-2, 0x1.5555555555555p-2, 0x1.d0ef4bdee26fap-1},
		{api.KQuarter, -0x1.ccccccccccccdp-1, 0x1.c666666666666p+2, 0x1.5c277aa35eb83p+10},
		{api.KQuarter, 0x1.4p+1, 0x1.9266666666666p+5, 0x1.0d032ac260797p-141},
		{api.KMonth, 0x1.999999999999ap-5, 0x1p+1, 0x1.cf5f7e06bf2c5p-1},
		{api.KMonth, 0x1.3333333333333p-5, 0x1.999999999999ap-4, 0x1.fe1629fb03977p-1},
		{api.KMonth, -0x1.47ae147ae147bp-7, 0x1.ep+4, 0x1.599b6964e4fe4p+0},
		{api.KMonth, 0x1.3333333333333p-2, 0x1.5555555555555p-2, 0x1.cfd8c34e68fdcp-1},
		{api.KMonth, -0x1.ccccccccccccdp-1, 0x1.c666666666666p+2, 0x1.7f6ff3e1b513cp+9},
		{api.KMonth, 0x1.4p+1, 0x1.9266666666666p+5, 0x1.274cc278b57bdp-165},
		{api.KCont, 0x1.999999999999ap-5, 0x1p+1, 0x1.cf46d99d52b3ap-1},
		{api.KCont, 0x1.3333333333333p-5, 0x1.999999999999ap-4, 0x1.fe156683d4b2dp-1},
		{api.KCont, -0x1.47ae147ae147bp-7, 0x1.ep+4, 0x1.599058c8c1a96p+0},
		{api.KCont, 0x1.3333333333333p-2, 0x1.5555555555555p-2, 0x1.cf46d99d52b3bp-1},
		{api.KCont, -0x1.ccccccccccccdp-1, 0x1.c666666666666p+2, 0x1.29eda46739396p+9},
		{api.KCont, 0x1.4p+1, 0x1.9266666666666p+5, 0x1.7ef911e77f6c7p-182},
	} {
		checkFactor(t, c.kind, c.r, c.time, answer{c.want, api.OK})
	}
}

// Promise 9.1.
func TestFactorSteps(t *testing.T) {
	state := uint64(91)
	for _, kind := range kinds() {
		numbers := 0
		for range 3000 {
			r, time := someRate(&state), someTime(&state)
			want := stepFactor(kind, r, time)
			checkFactor(t, kind, r, time, want)
			if want.e == api.OK && want.x != 1 {
				numbers++
			}
		}
		if numbers < 1500 {
			t.Errorf("kind %d: only %d factors", kind, numbers)
		}
	}
}

// Promise 9.1: where the rate alone, or with the time, leaves nothing above 0.
func TestFactorBase(t *testing.T) {
	for _, kind := range []int{api.KAnnual, api.KSemi, api.KQuarter, api.KMonth} {
		m := perYear(kind)
		for _, time := range []float64{0, nought, least, 0.5, 1, 3, api.MaxPower} {
			for _, r := range []float64{-m, ieee.Down(-m), -2 * m, -greatest} {
				checkFactor(t, kind, r, time, wrong(api.ErrValue))
			}
		}
		for _, time := range []float64{0, least, 0.5, 1, 1.5} {
			checkFactor(t, kind, ieee.Up(-m), time, stepFactor(kind, ieee.Up(-m), time))
			if _, e := rate.Factor(kind, ieee.Up(-m), time); e != api.OK {
				t.Errorf("Factor(%d, just above %v, %v) answers %v", kind, -m, time, e)
			}
		}
	}
	for _, time := range []float64{0x1p-20, 0.5, 1, 64, api.MaxPower} {
		checkFactor(t, api.KSimple, -1/time, time, wrong(api.ErrValue))
		checkFactor(t, api.KSimple, ieee.Down(-1/time), time, wrong(api.ErrValue))
		checkFactor(t, api.KSimple, -greatest, time, wrong(api.ErrValue))
		checkFactor(t, api.KSimple, ieee.Up(-1/time), time, answer{0x1p53, api.OK})
	}
	// The exact product is less than 1 in size, but rounded by itself it is not: fused with the sum it would leave 2^-54.
	checkFactor(t, api.KSimple, -(1 - 0x1p-27), 1+0x1p-27, wrong(api.ErrValue))
	checkFactor(t, api.KSimple, 1-0x1p-27, 1+0x1p-27, answer{0.5, api.OK})
}

// Promise 9.1: what comes is too small or too great.
func TestFactorEnds(t *testing.T) {
	none := wrong(api.ErrValue)
	for _, c := range []struct {
		kind    int
		r, time float64
		want    answer
	}{
		{api.KSimple, greatest, 1, answer{0x1p-1024, api.OK}},
		{api.KSimple, greatest, 2, none},
		{api.KSimple, 0x1p1003, api.MaxPower, answer{0x1p-1023, api.OK}},
		{api.KSimple, 0x1p1004, api.MaxPower, none},
		{api.KCont, 746, 1, none},
		{api.KCont, 0x1.74910d52d3052p+9, 1, none},
		{api.KCont, 0x1.74910d52d3051p+9, 1, answer{least, api.OK}},
		{api.KCont, -0x1.62e42fefa39efp+9, 1, answer{0x1.fffffffffff2ap+1023, api.OK}},
		{api.KCont, -0x1.62e42fefa39fp+9, 1, none},
		{api.KCont, -710, 1, none},
		{api.KCont, greatest, 2, none},
		{api.KCont, -greatest, 2, none},
		{api.KCont, greatest, 0, answer{1, api.OK}},
		{api.KAnnual, 1, 1100, none},
		{api.KAnnual, -0.5, 1024, answer{0x1.fffffffffff2ap+1023, api.OK}},
		{api.KAnnual, -0.5, 1025, none},
		{api.KAnnual, greatest, 2, none},
		{api.KAnnual, greatest, api.MaxPower, none},
		{api.KSemi, -1, 600, none},
		{api.KQuarter, 4, 270, none},
		{api.KMonth, 12, 90, none},
		{api.KMonth, -6, 90, none},
		{api.KMonth, 0x1p-40, api.MaxPower, stepFactor(api.KMonth, 0x1p-40, api.MaxPower)},
	} {
		checkFactor(t, c.kind, c.r, c.time, c.want)
	}
}

// Promise 9.1: what may not be, and which error is told first.
func TestFactorRefusals(t *testing.T) {
	badTimes := []float64{nan, inf, -inf, -1, -least, ieee.Up(api.MaxPower), 1048577, greatest, -greatest}
	for _, kind := range kinds() {
		for _, r := range []float64{nan, inf, -inf} {
			for _, time := range append([]float64{0, 1, api.MaxPower}, badTimes...) {
				checkFactor(t, kind, r, time, wrong(api.ErrValue))
			}
		}
		for _, time := range badTimes {
			checkFactor(t, kind, 0, time, wrong(api.ErrValue))
			checkFactor(t, kind, 0.05, time, wrong(api.ErrValue))
		}
	}
	for _, kind := range noKinds() {
		for _, time := range append([]float64{0, 1}, badTimes...) {
			checkFactor(t, kind, 0, time, wrong(api.ErrKind))
			checkFactor(t, kind, nan, time, wrong(api.ErrKind))
		}
	}
}

// Promise 9.2: the bits that the steps tell, reckoned elsewhere.
func TestYieldKnown(t *testing.T) {
	for _, c := range []struct {
		kind          int
		f, time, want float64
	}{
		{api.KSimple, 0x1.ccccccccccccdp-1, 0x1p+1, 0x1.c71c71c71c72p-5},
		{api.KSimple, 0x1.f0a3d70a3d70ap-1, 0x1.999999999999ap-4, 0x1.3cb376c34c8a8p-2},
		{api.KSimple, 0x1.0cccccccccccdp+0, 0x1.ep+4, -0x1.a01a01a01a022p-10},
		{api.KSimple, 0x1.3333333333333p-2, 0x1.5555555555555p-2, 0x1.c000000000001p+2},
		{api.KSimple, 0x1.c666666666666p+2, 0x1.c666666666666p+2, -0x1.efa5cef16cd44p-4},
		{api.KSimple, 0x1.12e0be826d695p-30, 0x1.9266666666666p+5, 0x1.2f5b0baf9623ap+24},
		{api.KAnnual, 0x1.ccccccccccccdp-1, 0x1p+1, 0x1.bb204e7879c4p-5},
		{api.KAnnual, 0x1.f0a3d70a3d70ap-1, 0x1.999999999999ap-4, 0x1.6c9e10418db5cp-2},
		{api.KAnnual, 0x1.0cccccccccccdp+0, 0x1.ep+4, -0x1.a9fd0c0df66p-10},
		{api.KAnnual, 0x1.3333333333333p-2, 0x1.5555555555555p-2, 0x1.204bda12f684fp+5},
		{api.KAnnual, 0x1.c666666666666p+2, 0x1.c666666666666p+2, -0x1.ee0f35a706514p-3},
		{api.KAnnual, 0x1.12e0be826d695p-30, 0x1.9266666666666p+5, 0x1.0507b45c515e6p-1},
		{api.KSemi, 0x1.ccccccccccccdp-1, 0x1p+1, 0x1.b54a6072b2c8p-5},
		{api.KSemi, 0x1.f0a3d70a3d70ap-1, 0x1.999999999999ap-4, 0x1.50e7f4ef830c8p-2},
		{api.KSemi, 0x1.0cccccccccccdp+0, 0x1.ep+4, -0x1.aa2962ea34cp-10},
		{api.KSemi, 0x1.3333333333333p-2, 0x1.5555555555555p-2, 0x1.457dd943cb7f6p+3},
		{api.KSemi, 0x1.c666666666666p+2, 0x1.c666666666666p+2, -0x1.080d528144c1p-2},
		{api.KSemi, 0x1.12e0be826d695p-30, 0x1.9266666666666p+5, 0x1.d47a6b7f5dac8p-2},
		{api.KQuarter, 0x1.ccccccccccccdp-1, 0x1p+1, 0x1.b26937872dd8p-5},
		{api.KQuarter, 0x1.f0a3d70a3d70ap-1, 0x1.999999999999ap-4, 0x1.4415bcb38b44p-2},
		{api.KQuarter, 0x1.0cccccccccccdp+0, 0x1.ep+4, -0x1.aa3f90a71e8p-10},
		{api.KQuarter, 0x1.3333333333333p-2, 0x1.5555555555555p-2, 0x1.77898e3ac122p+2},
		{api.KQuarter, 0x1.c666666666666p+2, 0x1.c666666666666p+2, -0x1.112917dd388e8p-2},
		{api.KQuarter, 0x1.12e0be826d695p-30, 0x1.9266666666666p+5, 0x1.bc5f8eaafb5ap-2},
		{api.KMonth, 0x1.ccccccccccccdp-1, 0x1p+1, 0x1.b0815d65895p-5},
		{api.KMonth, 0x1.f0a3d70a3d70ap-1, 0x1.999999999999ap-4, 0x1.3be4fa7d3fd5p-2},
		{api.KMonth, 0x1.0cccccccccccdp+0, 0x1.ep+4, -0x1.aa4e5aaa9e8p-10},
		{api.KMonth, 0x1.3333333333333p-2, 0x1.5555555555555p-2, 0x1.0db8c291bd327p+2},
		{api.KMonth, 0x1.c666666666666p+2, 0x1.c666666666666p+2, -0x1.1777e4ef9fa1p-2},
		{api.KMonth, 0x1.12e0be826d695p-30, 0x1.9266666666666p+5, 0x1.ad34fc1c9664p-2},
		{api.KCont, 0x1.ccccccccccccdp-1, 0x1p+1, 0x1.af8e8210a415bp-5},
		{api.KCont, 0x1.f0a3d70a3d70ap-1, 0x1.999999999999ap-4, 0x1.37e6fc205b276p-2},
		{api.KCont, 0x1.0cccccccccccdp+0, 0x1.ep+4, -0x1.aa55bfee0d545p-10},
		{api.KCont, 0x1.3333333333333p-2, 0x1.5555555555555p-2, 0x1.ce5357b1c7ab2p+1},
		{api.KCont, 0x1.c666666666666p+2, 0x1.c666666666666p+2, -0x1.1ab20323afb24p-2},
		{api.KCont, 0x1.12e0be826d695p-30, 0x1.9266666666666p+5, 0x1.a5e196230db82p-2},
	} {
		checkYield(t, c.kind, c.f, c.time, answer{c.want, api.OK})
	}
}

// Promise 9.2.
func TestYieldSteps(t *testing.T) {
	state := uint64(92)
	for _, kind := range kinds() {
		numbers := 0
		for range 3000 {
			f, time := someFactor(&state), someTime(&state)
			want := stepYield(kind, f, time)
			checkYield(t, kind, f, time, want)
			if want.e == api.OK && want.x != 0 {
				numbers++
			}
		}
		if numbers < 1500 {
			t.Errorf("kind %d: only %d yields", kind, numbers)
		}
	}
}

// Promise 9.2: what comes is too great, and what is still told.
func TestYieldEnds(t *testing.T) {
	none := wrong(api.ErrValue)
	for _, c := range []struct {
		kind    int
		f, time float64
		want    answer
	}{
		{api.KSimple, least, 1, none},
		{api.KSimple, 0x1p-1024, 1, none},
		{api.KSimple, ieee.Up(0x1p-1024), 1, answer{0x1.ffffffffffff8p+1023, api.OK}},
		{api.KSimple, 0x1p-1000, 0x1p-100, none},
		{api.KSimple, greatest, 1, answer{-1, api.OK}},
		{api.KSimple, 2, 0x1p-1023, answer{-0x1p1022, api.OK}},
		{api.KSimple, 2, 0x1p-1026, none},
		{api.KSimple, 1, 3, answer{0, api.OK}},
		{api.KMonth, 1, 3, answer{0, api.OK}},
		{api.KCont, 1, 3, answer{nought, api.OK}}, // the turned +0 of Ln(1)
		{api.KCont, 2, least, none},
		{api.KCont, 0.5, least, none},
		{api.KCont, least, 1, answer{0x1.74385446d71c3p+9, api.OK}},
		{api.KAnnual, 0.5, least, none},
		{api.KAnnual, 2, least, answer{-1, api.OK}},
		{api.KSemi, 2, least, answer{-2, api.OK}},
		{api.KQuarter, greatest, 0x1p-600, answer{-4, api.OK}},
		{api.KMonth, 2, 0x1p-1000, answer{-12, api.OK}},
		{api.KAnnual, 0x1p-1000, 1, stepYield(api.KAnnual, 0x1p-1000, 1)},
		{api.KSemi, 0x1p-1023, 0.5, none},
		{api.KQuarter, 0x1p-1020, 0.25, stepYield(api.KQuarter, 0x1p-1020, 0.25)},
		{api.KMonth, 0x1p-1021, 1. / 12, none}, // by the last step alone
		{api.KAnnual, least, 1, none},
	} {
		checkYield(t, c.kind, c.f, c.time, c.want)
	}
}

// Promise 9.2: what may not be, and which error is told first.
func TestYieldRefusals(t *testing.T) {
	bad := []float64{nan, inf, -inf, 0, nought, -1, -least, -greatest}
	badTimes := append([]float64{ieee.Up(api.MaxPower), 1048577, greatest}, bad...)
	for _, kind := range kinds() {
		for _, f := range bad {
			for _, time := range append([]float64{least, 1, api.MaxPower}, badTimes...) {
				checkYield(t, kind, f, time, wrong(api.ErrValue))
			}
		}
		for _, time := range badTimes {
			checkYield(t, kind, 1, time, wrong(api.ErrValue))
			checkYield(t, kind, 0.9, time, wrong(api.ErrValue))
		}
		checkYield(t, kind, 0.9, api.MaxPower, stepYield(kind, 0.9, api.MaxPower))
		if _, e := rate.Yield(kind, 0.9, api.MaxPower); e != api.OK {
			t.Errorf("kind %d, the longest time: %v", kind, e)
		}
	}
	for _, kind := range noKinds() {
		for _, time := range append([]float64{1}, badTimes...) {
			checkYield(t, kind, 1, time, wrong(api.ErrKind))
			checkYield(t, kind, nan, time, wrong(api.ErrKind))
		}
	}
}

// Promise 9.3: the bits that the steps tell, reckoned elsewhere, and the ends.
func TestForwardKnown(t *testing.T) {
	for _, c := range []struct{ near, far, time, want float64 }{
		{0x1.ccccccccccccdp-1, 0x1.999999999999ap-1, 0x1.999999999999ap-4, 0x1.4p+0},
		{0x1.f0a3d70a3d70ap-1, 0x1.f126e978d4fdfp-1, 0x1.5555555555555p-2, -0x1.94f5b7c2d59p-9},
		{0x1.12e0be826d695p-30, 0x1.421f5f40d8376p-22, 0x1.6cccccccccccdp+2, -0x1.6619bfecd661ap-3},
		{0x1.199999999999ap+0, 0x1.6666666666666p-1, 0x1.681999999999ap+8, 0x1.9ffc6cd4aa2c4p-10},
		{0.5, 0.5, 3, 0},
		{least, least, least, 0},
		{1, 2, 0.25, -2},
		// No time is too long here.
		{1, 0.5, 0x1p1000, 0x1p-1000},
		{1, 0.5, greatest, 0x1p-1024},
		{least, greatest, 1, -1},
		{ieee.Down(1), 1, greatest, nought},
		{ieee.Up(1), 1, greatest, 0},
		{greatest, 1, 1, greatest},
	} {
		checkForward(t, c.near, c.far, c.time, answer{c.want, api.OK})
	}
}

// Promise 9.3.
func TestForwardSteps(t *testing.T) {
	state := uint64(93)
	numbers := 0
	for range 10000 {
		near, far, time := someFactor(&state), someFactor(&state), someTime(&state)
		want := stepForward(near, far, time)
		checkForward(t, near, far, time, want)
		if want.e == api.OK {
			numbers++
		}
	}
	if numbers < 6000 {
		t.Errorf("only %d rates", numbers)
	}
}

// Promise 9.3.
func TestForwardRefusals(t *testing.T) {
	for _, bad := range []float64{nan, inf, -inf, 0, nought, -1, -least, -greatest} {
		checkForward(t, bad, 1, 1, wrong(api.ErrValue))
		checkForward(t, 1, bad, 1, wrong(api.ErrValue))
		checkForward(t, 1, 1, bad, wrong(api.ErrValue))
		checkForward(t, bad, bad, 1, wrong(api.ErrValue))
		checkForward(t, bad, bad, bad, wrong(api.ErrValue))
	}
	for _, c := range [][3]float64{{1, least, 1}, {greatest, 0.5, 1}, {1, 0.5, least}, {1, 2, least}, {greatest, 1, 0.5}} {
		checkForward(t, c[0], c[1], c[2], wrong(api.ErrValue))
	}
}

// Promise 9.4: the bits that the steps tell, reckoned elsewhere.
func TestConvertKnown(t *testing.T) {
	for _, c := range []struct {
		from, to      int
		r, time, want float64
	}{
		{api.KSimple, api.KAnnual, 0x1.1eb851eb851ecp-4, 0x1.e666666666666p+0, 0x1.163be35d30cfp-4},
		{api.KAnnual, api.KSemi, 0x1.1eb851eb851ecp-3, 0x1.e666666666666p-1, 0x1.1554cceee448p-3},
		{api.KSemi, api.KQuarter, 0x1.ae147ae147ae2p-3, 0x1.4444444444444p-1, 0x1.a358cbba82c4p-3},
		{api.KQuarter, api.KMonth, 0x1.1eb851eb851ecp-2, 0x1.e666666666666p-2, 0x1.18474b027567p-2},
		{api.KMonth, api.KCont, 0x1.6666666666667p-2, 0x1.851eb851eb852p-2, 0x1.6145d598709a1p-2},
		{api.KCont, api.KSimple, 0x1.ae147ae147ae2p-2, 0x1.4444444444444p-2, 0x1.cbfdd7c3a0dc6p-2},
	} {
		checkConvert(t, c.from, c.to, c.r, c.time, answer{c.want, api.OK})
	}
}

// Promise 9.4.
func TestConvertSteps(t *testing.T) {
	state := uint64(94)
	for _, from := range kinds() {
		for _, to := range kinds() {
			numbers := 0
			for range 300 {
				r, time := someRate(&state), someTime(&state)
				want := stepFactor(from, r, time)
				if want.e == api.OK {
					want = stepYield(to, want.x, time)
				}
				checkConvert(t, from, to, r, time, want)
				if want.e == api.OK {
					numbers++
				}
			}
			if numbers < 150 {
				t.Errorf("%d to %d: only %d rates", from, to, numbers)
			}
		}
	}
}

// Promise 9.4: the kinds are asked ahead of all else.
func TestConvertRefusals(t *testing.T) {
	for _, no := range noKinds() {
		for _, kind := range append(noKinds(), kinds()...) {
			for _, c := range [][2]float64{{0.05, 1}, {nan, 1}, {0.05, nan}, {0.05, -1}, {-20, 1}, {0.05, 0}, {inf, inf}} {
				checkConvert(t, no, kind, c[0], c[1], wrong(api.ErrKind))
				checkConvert(t, kind, no, c[0], c[1], wrong(api.ErrKind))
			}
		}
	}
	for _, from := range kinds() {
		for _, to := range kinds() {
			for _, c := range [][2]float64{{nan, 1}, {inf, 1}, {-inf, 1}, {0.05, nan}, {0.05, inf}, {0.05, -1}, {0.05, 1048577}, {-greatest, 2}, {greatest, api.MaxPower}} {
				checkConvert(t, from, to, c[0], c[1], wrong(api.ErrValue))
			}
			// Of no time there is a factor, but no yield.
			checkConvert(t, from, to, 0.05, 0, wrong(api.ErrValue))
			checkConvert(t, from, to, 0.05, nought, wrong(api.ErrValue))
		}
	}
	// A factor that has no simple rate, but others.
	checkConvert(t, api.KCont, api.KSimple, 745, 1, wrong(api.ErrValue))
	if _, e := rate.Convert(api.KCont, api.KMonth, 745, 1); e != api.OK {
		t.Error(e)
	}
}

// What 9.4 is for: there and back is the same rate, as near as the bits let it.
func TestConvertIsNear(t *testing.T) {
	state := uint64(95)
	for range 2000 {
		r, time := 0.001+unit(&state)*0.2, 0.5+unit(&state)*20
		for _, from := range kinds() {
			for _, to := range kinds() {
				there, e := rate.Convert(from, to, r, time)
				back, f := rate.Convert(to, from, there, time)
				if e != api.OK || f != api.OK || math.Abs(back-r) > 1e-13 {
					t.Fatalf("%x of kind %d, for %x, to kind %d and back: %x, %x, %v, %v", r, from, time, to, there, back, e, f)
				}
			}
		}
	}
}

// Promise 9.5.
func TestOnes(t *testing.T) {
	one := answer{1, api.OK}
	state := uint64(96)
	times := []float64{0, nought, least, 1, 0x1p-1022, ieee.Down(api.MaxPower), api.MaxPower}
	rates := []float64{0, nought, least, -least, 0.05, -0.05, ieee.Up(-1), 1, 12, 1e300, greatest}
	for range 1000 {
		times = append(times, someTime(&state))
		rates = append(rates, max(someRate(&state), -0.999))
	}
	for _, kind := range kinds() {
		for _, time := range times {
			checkFactor(t, kind, 0, time, one)
			checkFactor(t, kind, nought, time, one)
			if time == 0 {
				continue
			}
			if r, e := rate.Yield(kind, 1, time); r != 0 || e != api.OK {
				t.Errorf("Yield(%d, 1, %x) is %x, %v", kind, time, r, e)
			}
		}
		for _, r := range rates {
			checkFactor(t, kind, r, 0, one)
			checkFactor(t, kind, r, nought, one)
		}
	}
	for _, r := range []float64{-1, -12, -1e300, -greatest} {
		checkFactor(t, api.KSimple, r, 0, one)
		checkFactor(t, api.KCont, r, 0, one)
	}
}

// Promise 9.5: what Factor tells is above 0 and a number.
func TestFactorIsAbove0(t *testing.T) {
	state := uint64(97)
	factors := 0
	for range 100000 {
		r, time := someRate(&state), someTime(&state)
		if scatter(&state)%4 == 0 {
			r, time = someFloat(&state), math.Abs(someFloat(&state))
		}
		kind := 1 + int(scatter(&state)%6)
		f, e := rate.Factor(kind, r, time)
		if e == api.OK && !(f > 0 && f <= greatest) {
			t.Fatalf("Factor(%d, %x, %x) is %x", kind, r, time, f)
		}
		if e == api.OK {
			factors++
		}
	}
	if factors < 50000 {
		t.Errorf("only %d factors", factors)
	}
}

// two is two numbers in their order, mostly next to each other or nearly so.
func two(state *uint64, some func(*uint64) float64) (lesser, greater float64) {
	lesser = some(state)
	if other := some(state); scatter(state)%3 == 0 {
		return min(lesser, other), max(lesser, other)
	}
	greater = lesser
	for range 1 + scatter(state)%3 {
		greater = ieee.Up(greater)
	}
	return lesser, greater
}

// Promise 9.6: the factors of simple rates.
func TestSimpleFactorDoesNotRise(t *testing.T) {
	state := uint64(98)
	pairs := 0
	notAbove := func(r, time, s, longer float64) {
		f, e := rate.Factor(api.KSimple, r, time)
		g, d := rate.Factor(api.KSimple, s, longer)
		if e != api.OK || d != api.OK {
			return
		}
		if g > f {
			t.Fatalf("at %x for %x it is %x, at %x for %x %x", r, time, f, s, longer, g)
		}
		pairs++
	}
	for range 50000 {
		r := math.Abs(someRate(&state))
		time, longer := two(&state, someTime)
		notAbove(r, time, r, longer)
		time = someTime(&state)
		r, s := two(&state, someRate)
		notAbove(r, time, s, time)
	}
	if pairs < 70000 {
		t.Errorf("only %d pairs", pairs)
	}
}

// Promise 9.6: forward rates.
func TestForwardRunsOneWay(t *testing.T) {
	state := uint64(99)
	pairs := 0
	notBelow := func(near, far, greaterNear, lesserFar, time float64) {
		r, e := rate.Forward(near, far, time)
		s, d := rate.Forward(greaterNear, lesserFar, time)
		if e != api.OK || d != api.OK {
			return
		}
		if s < r {
			t.Fatalf("for %x, of %x and %x it is %x, of %x and %x %x", time, near, far, r, greaterNear, lesserFar, s)
		}
		pairs++
	}
	for range 50000 {
		time, other := someTime(&state), someFactor(&state)
		lesser, greater := two(&state, someFactor)
		notBelow(lesser, other, greater, other, time)
		notBelow(other, greater, other, lesser, time)
	}
	if pairs < 70000 {
		t.Errorf("only %d pairs", pairs)
	}
}

// Promise 9.7: whatever they are given, the calls end, and tell a number or an error of theirs, the same each time.
func TestEveryCallEnds(t *testing.T) {
	state := uint64(100)
	for range 30000 {
		x, y, z := someFloat(&state), someFloat(&state), someFloat(&state)
		kind, other := int(scatter(&state)%10)-1, int(scatter(&state)%10)-1
		if scatter(&state)%8 == 0 {
			kind = int(scatter(&state))
		}
		for i, call := range []func() answer{
			func() answer { return told(rate.Factor(kind, x, y)) },
			func() answer { return told(rate.Yield(kind, x, y)) },
			func() answer { return told(rate.Forward(x, y, z)) },
			func() answer { return told(rate.Convert(kind, other, x, y)) },
		} {
			got := call()
			good := got.e == api.OK && isNumber(got.x) || got.is(wrong(api.ErrKind)) || got.is(wrong(api.ErrValue))
			if !good || !call().is(got) {
				t.Fatalf("call %d of %d, %d, %x, %x, %x: %v", i, kind, other, x, y, z, got)
			}
		}
	}
}
