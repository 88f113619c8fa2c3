package deal_test

import (
	"slices"
	"strconv"
	"strings"
	"testing"

	"tenor/api"
	"tenor/date"
	"tenor/deal"
	"tenor/flow"
)

// means is the flows that a text means.
func means(t *testing.T, s string) list {
	t.Helper()
	l, e, at := deal.Parse(s)
	if e != api.OK {
		t.Fatalf("Parse(%q) is %v, %d", s[:min(len(s), 300)], e, at)
	}
	got := told(deal.Flows(l))
	if want := stepFlows(l); !got.is(want) {
		t.Errorf("Flows of %q is %v, not %v", s, got, want)
	}
	return got
}

// checkMeans holds what a text means.
func checkMeans(t *testing.T, s string, want list) {
	t.Helper()
	if got := means(t, s); !got.is(want) {
		t.Errorf("%q means %v, not %v", s[:min(len(s), 300)], got, want)
	}
}

// checkSame holds that two texts mean the same, an error too.
func checkSame(t *testing.T, a, b string) list {
	t.Helper()
	got, want := means(t, a), means(t, b)
	if !got.is(want) {
		t.Errorf("%q means %v, and %q means %v", a, got, b, want)
	}
	return got
}

// many is the words of n flows on 2030-01-01, n from 1 to 4,096.
func many(n int) string {
	if n <= 1200 {
		return "repeat " + strconv.Itoa(n) + " 1 pay 1 1 2030-01-01"
	}
	return "both " + many(1200) + " " + many(n-1200)
}

// Promises 17.4 and 17.5: days and bits, reckoned elsewhere.
func TestFlowsKnown(t *testing.T) {
	for _, x := range []struct {
		s    string
		want list
	}{
		{"fixed 1000000 0.0375 act360 2024-01-31 2025-12-31 6 3", flows(f(45471, 0x1.eb89555555556p+13, 3), f(45655, 0x1.2b7aaaaaaaaaap+14, 3), f(45836, 0x1.2698aaaaaaaabp+14, 3), f(46020, 0x1.2b7aaaaaaaaaap+14, 3))},
		{"fixed -250.5 0.1 act365 1999-11-30 2001-02-28 5 8", flows(f(36642, -0x1.496cb65b2d96dp+3, 8), f(36795, -0x1.50035dd7e1b37p+3, 8), f(36948, -0x1.50035dd7e1b37p+3, 8))},
		{"fixed 1e6 -0.0125 actact 2023-08-31 2025-02-28 3 1", flows(f(45256, -0x1.7cfe3f1f8fc7ep+11, 1), f(45348, -0x1.8928408a966e3p+11, 1), f(45438, -0x1.8038a7de6d1d6p+11, 1), f(45530, -0x1.88c272b5dba0ep+11, 1), f(45622, -0x1.88c272b5dba0ep+11, 1), f(45714, -0x1.89701d20bff01p+11, 1))},
		{"fixed 777 0.031 bond 2024-08-31 2026-03-31 7 2", flows(f(45686, 0x1.4128f5c28f5c3p+3, 2), f(45898, 0x1.c19fbe76c8b44p+3, 2), f(46110, 0x1.c19fbe76c8b44p+3, 2))},
		{"fixed 777 0.031 euro 2024-08-30 2026-03-31 7 2", flows(f(45686, 0x1.4128f5c28f5c3p+3, 2), f(45898, 0x1.c19fbe76c8b44p+3, 2), f(46110, 0x1.c19fbe76c8b44p+3, 2))},
		{"fixed 0x1.8p+3 0x1.999999999999ap-4 actact 2199-01-01 2199-12-31 4 5", flows(f(109327, 0x1.909f59ea65d6dp-2, 5), f(109450, 0x1.9e16b971337b1p-2, 5), f(109572, 0x1.9ab8e18f80121p-2, 5))},
		{"fixed 100 0.05 act360 1900-01-01 1900-01-02 1200 1", flows(f(1, 0x1.c71c71c71c71dp-7, 1))},
		{"fixed 3 0.07 act365 1900-01-01 2199-12-31 1200 4", flows(f(36523, 0x1.503633ad4b623p+4, 4), f(73048, 0x1.503aea41edc3bp+4, 4), f(109572, 0x1.50388ef79c92fp+4, 4))},
		{"fixed -0 5 bond 2030-01-31 2030-03-30 1 1", flows(f(47540, minus, 1), f(47570, minus, 1))},
		{"scale -0.1 both fixed 100 0.03 act360 2025-03-31 2026-03-31 3 1 give pay 100 1 2026-03-31", flows(f(45836, -0x1.369d0369d036ap-4, 1), f(45928, -0x1.3a06d3a06d3ap-4, 1), f(46020, -0x1.3a06d3a06d3ap-4, 1), f(46110, -0x1.3333333333334p-4, 1), f(46110, 0x1.4p+3, 1))},
		{"repeat 3 1 both pay 1 1 2024-01-31 pay 0.1 2 2024-12-30", flows(f(45320, 0x1p+0, 1), f(45654, 0x1.999999999999ap-4, 2), f(45349, 0x1p+0, 1), f(45685, 0x1.999999999999ap-4, 2), f(45380, 0x1p+0, 1), f(45714, 0x1.999999999999ap-4, 2))},
		{"repeat 2 13 repeat 3 1 pay 7 3 2023-12-31", flows(f(45289, 0x1.cp+2, 3), f(45320, 0x1.cp+2, 3), f(45349, 0x1.cp+2, 3), f(45686, 0x1.cp+2, 3), f(45714, 0x1.cp+2, 3), f(45743, 0x1.cp+2, 3))},
		{"window 2025-02-28 2025-05-31 repeat 6 1 pay 3 4 2024-12-31", flows(f(45714, 0x1.8p+1, 4), f(45745, 0x1.8p+1, 4), f(45775, 0x1.8p+1, 4))},
		{"give scale 3 window 2024-02-01 2024-02-02 pay 1 1 2024-02-01", flows(f(45321, -0x1.8p+1, 1))},
		{"scale 0x1p-1074 scale 0x1p-3 pay 3 1 2030-06-15", flows(f(47647, 0, 1))},
		{"both both pay 1 1 2030-01-01 zero both give pay 2 2 2029-01-01 pay 3 3 2028-01-01", flows(f(47482, 0x1p+0, 1), f(47117, -0x1p+1, 2), f(46751, 0x1.8p+1, 3))},
	} {
		checkMeans(t, x.s, x.want)
	}
}

// Promise 17.1: what each kind means.
func TestFlowsKinds(t *testing.T) {
	checkMeans(t, "zero", flows())
	checkMeans(t, "pay -0 8 1900-01-01", flows(f(0, minus, 8)))
	checkMeans(t, "pay 1e308 1 2199-12-31", flows(f(109572, 1e308, 1)))
	checkMeans(t, "give zero", flows())
	checkMeans(t, "give pay 0 3 1900-01-02", flows(f(1, minus, 3)))
	checkMeans(t, "give both pay 1 1 1900-01-01 pay -2 2 1900-01-02", flows(f(0, -1, 1), f(1, 2, 2)))
	checkMeans(t, "both give pay 1 1 1900-01-01 pay -2 2 1900-01-02", flows(f(0, -1, 1), f(1, -2, 2)))
	checkMeans(t, "both pay 1 1 1900-01-01 give pay -2 2 1900-01-02", flows(f(0, 1, 1), f(1, 2, 2)))
	checkMeans(t, "both zero zero", flows())
	checkMeans(t, "both pay 2 1 1900-01-03 pay 1 1 1900-01-02", flows(f(2, 2, 1), f(1, 1, 1)))
	checkMeans(t, "both pay 1 1 1900-01-02 pay 1 1 1900-01-02", flows(f(1, 1, 1), f(1, 1, 1)))
	checkMeans(t, "scale 3 both pay 2 1 1900-01-03 scale -2 pay 1 1 1900-01-02", flows(f(2, 6, 1), f(1, -6, 1)))
	checkMeans(t, "both pay 2 1 1900-01-03 scale 3 pay 1 1 1900-01-02", flows(f(2, 2, 1), f(1, 3, 1)))
	checkMeans(t, "scale 0 pay -5 1 1900-01-01", flows(f(0, minus, 1)))
	checkMeans(t, "scale -0 pay 5 1 1900-01-01", flows(f(0, minus, 1)))
	checkMeans(t, "scale 1e308 zero", flows())
	checkMeans(t, "both pay 1 1 1900-01-01 window 1900-01-02 1900-01-04 both both pay 2 1 1900-01-01 pay 3 1 1900-01-02 both pay 4 1 1900-01-03 pay 5 1 1900-01-04", flows(f(0, 1, 1), f(1, 3, 1), f(2, 4, 1)))
	checkMeans(t, "window 1900-01-02 1900-01-02 pay 1 1 1900-01-02", flows())
	checkMeans(t, "window 1900-01-03 1900-01-01 pay 1 1 1900-01-02", flows())
	checkMeans(t, "window 1900-01-01 2199-12-31 both pay 1 1 2199-12-31 pay 2 1 1900-01-01", flows(f(0, 2, 1)))
	checkMeans(t, "both pay 1 1 1900-01-01 repeat 2 1 both pay 2 1 1900-01-31 pay 3 2 1900-02-28", flows(f(0, 1, 1), f(30, 2, 1), f(58, 3, 2), f(58, 2, 1), f(86, 3, 2)))
	checkMeans(t, "repeat 4 1 pay 1 1 2024-01-31", flows(f(45320, 1, 1), f(45349, 1, 1), f(45380, 1, 1), f(45410, 1, 1)))
	checkMeans(t, "repeat 1 1200 pay 1 1 2199-12-31", flows(f(109572, 1, 1)))
	checkMeans(t, "repeat 3 1200 pay 1 1 1999-12-31", flows(f(36523, 1, 1), f(73048, 1, 1), f(109572, 1, 1)))
	checkMeans(t, "repeat 4096 1200 zero", flows())
	checkMeans(t, "give repeat 2 12 scale 2 window 2025-01-01 2026-01-01 repeat 3 12 pay 1 1 2024-06-01", flows(f(45807, -2, 1), f(46172, -2, 1)))
}

// Promise 17.4: the leg of fixed, whatever its day count, its step and its stub.
func TestFlowsFixed(t *testing.T) {
	state := uint64(174)
	seen := map[api.Errno]int{}
	for i := range 4000 {
		x := someTerm(&state, api.TFixed, i%2 == 0)
		g := api.Leg{Kind: api.LFixed, Count: x.Count, Cur: x.Cur, Notional: x.X, Rate: x.Y}
		g.Spec = api.Spec{Start: x.Day, End: x.To, N: x.N, Unit: api.UMonth, Stub: api.SShortFirst, Roll: api.RNone, Conv: api.CNone, Lag: 0, Cal: api.Calendar{}}
		want := told(flow.Fixed(g))
		if got := told(deal.Flows([]api.Term{x})); !got.is(want) {
			t.Errorf("Flows of %v is %v, not %v", x, got, want)
		}
		seen[want.e]++
	}
	if seen[api.OK] < 1000 || seen[api.ErrValue] < 50 || seen[api.ErrMany] < 50 {
		t.Errorf("only %v", seen)
	}
	// 1,200 periods, and one more.
	for _, x := range []struct {
		s    string
		want int
	}{{"fixed 1 1 euro 1950-01-01 2050-01-01 1 1", 1200}, {"fixed 1 1 euro 1949-12-31 2050-01-01 1 1", 0}, {"fixed 1 1 euro 1950-01-02 2050-01-01 1 1", 1200}} {
		got := means(t, x.s)
		if len(got.l) != x.want || (got.e == api.ErrMany) != (x.want == 0) {
			t.Errorf("%q means %d flows, %v", x.s, len(got.l), got.e)
		}
	}
	checkMeans(t, "fixed 1e200 1e200 euro 2025-01-15 2026-01-15 6 1", wrong(api.ErrValue))
	checkMeans(t, "fixed 1e308 1 act360 2025-01-15 2030-01-15 60 1", wrong(api.ErrValue))
}

// Promise 17.5: the errors, term by term in the order of the list.
func TestFlowsErrors(t *testing.T) {
	const (
		value   = "scale 10 pay 1e308 1 2030-01-01"
		late    = "repeat 2 1 pay 1 1 2199-12-01"
		legMany = "fixed 1 1 euro 1900-01-01 2199-01-01 1 1"
		legHuge = "fixed 1e308 1e308 euro 2030-01-01 2031-01-01 12 1"
	)
	for s, want := range map[string]api.Errno{
		value: api.ErrValue, late: api.ErrRange, legMany: api.ErrMany, legHuge: api.ErrValue,
		"scale -10 pay 1e308 1 2030-01-01":                                  api.ErrValue,
		"scale 1e308 both pay 1 1 2030-01-01 pay 2 1 2030-01-01":            api.ErrValue,
		"both " + value + " " + late:                                        api.ErrValue,
		"both " + late + " " + value:                                        api.ErrRange,
		"both " + legMany + " " + value:                                     api.ErrMany,
		"both " + value + " " + legMany:                                     api.ErrValue,
		"scale 10 " + late:                                                  api.ErrRange,
		"repeat 2 1 " + value:                                               api.ErrValue,
		"repeat 4096 1 scale 10 pay 1e308 1 2199-12-01":                     api.ErrValue,
		"scale 10 repeat 2 1 pay 1e308 1 2199-12-01":                        api.ErrRange,
		"window 2030-01-01 2030-01-01 " + value:                             api.ErrValue,
		"window 2030-01-01 2030-01-01 " + late:                              api.ErrRange,
		"give " + late:                                                      api.ErrRange,
		"scale 0 " + value:                                                  api.ErrValue,
		"repeat 2 1200 pay 1 1 2100-01-01":                                  api.ErrRange,
		"repeat 3 1200 pay 1 1 2000-01-01":                                  api.ErrRange,
		"repeat 4096 1200 pay 1 1 1900-01-01":                               api.ErrRange,
		"repeat 2 1 both pay 1 1 2030-01-01 pay 1 1 2199-12-31":             api.ErrRange,
		"scale 10 window 2030-01-01 2030-01-02 " + "pay 1e308 1 2030-01-02": api.OK,
		"repeat 9 99 window 2030-01-01 2030-01-02 pay 1 1 2199-12-31":       api.OK,
		"window 2030-01-01 2030-01-02 repeat 9 99 pay 1 1 2199-12-31":       api.ErrRange,
	} {
		if got := means(t, s); got.e != want {
			t.Errorf("%q means %v, not %v", s, got, want)
		}
	}
}

// Promise 17.5: as many flows as may be, and one more, of each kind that adds some.
func TestFlowsMany(t *testing.T) {
	const leg = "fixed 1 1 euro 2000-01-15 2001-01-15 1 1" // 12 flows
	none := func(s string) string { return "window 1900-01-01 1900-01-01 " + s }
	for _, x := range []struct {
		s    string
		want int // -1: too many
	}{
		{many(4096), 4096}, {"both " + many(4095) + " pay 1 1 2030-01-01", 4096}, {"both " + many(4096) + " zero", 4096}, {"both zero " + many(4096), 4096},
		{"both " + many(4096) + " pay 1 1 2030-01-01", -1}, {"both pay 1 1 2030-01-01 " + many(4096), -1},
		{"both " + many(4084) + " " + leg, 4096}, {"both " + many(4085) + " " + leg, -1}, {"both " + many(4096) + " " + leg, -1}, {"both " + leg + " " + many(4084), 4096}, {"both " + leg + " " + many(4085), -1},
		{"both " + many(4090) + " repeat 6 1 pay 1 1 2030-01-01", 4096}, {"both " + many(4090) + " repeat 7 1 pay 1 1 2030-01-01", -1},
		{"both " + many(4090) + " repeat 3 1 both pay 1 1 2030-01-01 pay 1 1 2030-01-01", 4096}, {"both " + many(4091) + " repeat 3 1 both pay 1 1 2030-01-01 pay 1 1 2030-01-01", -1},
		{"repeat 2 1 " + many(2048), 4096}, {"repeat 2 1 " + many(2049), -1}, {"give " + many(4096), 4096}, {"scale 2 " + many(4096), 4096}, {"repeat 1 1 " + many(4096), 4096}, {"repeat 2 1 " + many(4096), -1},
		// What a window left out is counted no more; until it does, it is.
		{"both " + none(many(4096)) + " " + many(4096), 4096}, {"both " + many(4096) + " " + none("zero"), 4096}, {"both " + many(4096) + " " + none("pay 1 1 2030-01-01"), -1},
		{"both " + many(1) + " " + none(many(4096)), -1}, {"both " + many(1) + " " + none(many(4095)), 1}, {"both " + none(many(4096)) + " " + none(many(4096)), 0},
		{"both window 2030-01-01 2030-01-02 " + many(4096) + " " + many(4092), 4096}, {"both window 2030-01-01 2030-01-02 " + many(4096) + " " + many(4093), -1},
		{"both window 2030-01-01 2030-01-02 " + many(4096) + " give " + many(4093), -1}, {"repeat 2 1 " + none(many(4096)), 0}, {none("repeat 2 1 " + many(4096)), -1},
		{"both scale 2 give both zero " + many(2000) + " " + many(2096), 4096}, {"both scale 2 give both zero " + many(2000) + " " + many(2097), -1},
	} {
		got := means(t, x.s)
		if x.want < 0 && !got.is(wrong(api.ErrMany)) || x.want >= 0 && (got.e != api.OK || len(got.l) != x.want) {
			t.Errorf("%q means %d flows, %v, not %d", x.s, len(got.l), got.e, x.want)
		}
	}
}

// Promise 17.5: which of two errors comes first.
func TestFlowsOrder(t *testing.T) {
	for _, x := range []struct {
		s    string
		want api.Errno
	}{
		// The leg's own error ahead of too many; a leg that may be, flow by flow.
		{"both " + many(4096) + " fixed 1e308 1e308 euro 2030-01-01 2031-01-01 12 1", api.ErrValue},
		{"both " + many(4096) + " fixed 1 1 euro 2030-01-01 2031-01-01 12 1", api.ErrMany},
		// Room is asked ahead of each shift, not ahead of all.
		{"both " + many(4095) + " repeat 2 1 pay 1 1 2199-12-31", api.ErrMany},
		{"both " + many(4094) + " repeat 2 1 pay 1 1 2199-12-31", api.ErrRange},
		{"both " + many(4093) + " repeat 2 1 both pay 1 1 2199-12-31 pay 1 1 2199-12-31", api.ErrRange},
		{"both " + many(4093) + " repeat 2 1 both pay 1 1 2030-01-01 pay 1 1 2199-12-31", api.ErrMany},
		{"both " + many(4092) + " repeat 2 1 both pay 1 1 2030-01-01 pay 1 1 2199-12-31", api.ErrRange},
		{"both " + many(4092) + " repeat 2 1 both both pay 1 1 2030-01-01 pay 1 1 2199-12-31 pay 1 1 2030-01-01", api.ErrMany},
		{"both " + many(4091) + " repeat 2 1 both both pay 1 1 2030-01-01 pay 1 1 2199-12-31 pay 1 1 2030-01-01", api.ErrRange},
		{"both " + many(4091) + " repeat 3 1 both pay 1 1 2030-01-01 pay 1 1 2199-11-30", api.ErrMany},
		{"both " + many(4090) + " repeat 3 1 both pay 1 1 2030-01-01 pay 1 1 2199-11-30", api.ErrRange},
		{"both " + many(4091) + " repeat 3 1 both pay 1 1 2199-11-30 pay 1 1 2030-01-01", api.ErrRange},
		{"repeat 4096 1 both pay 1 1 2030-01-01 pay 1 1 2199-01-31", api.ErrRange},
		{"repeat 4096 1 both pay 1 1 1900-01-01 pay 1 1 1900-01-01", api.ErrMany},
		// A term that comes later is not asked.
		{"both " + many(4096) + " scale 10 pay 1e308 1 2030-01-01", api.ErrMany},
		{"both both scale 1 " + many(4096) + " zero scale 10 pay 1e308 1 2030-01-01", api.ErrMany},
		{"scale 1e308 scale 10 " + many(4096), api.ErrValue},
		{"scale 1e308 both scale 10 " + many(4096) + " zero", api.ErrValue},
		{"repeat 2 1 scale 1e308 scale 10 " + many(4096), api.ErrValue},
		{"scale 1e308 repeat 2 1 scale 10 " + many(4096), api.ErrMany},
	} {
		if got := means(t, x.s); !got.is(wrong(x.want)) {
			t.Errorf("%q means %d flows, %v, not %v", x.s, len(got.l), got.e, x.want)
		}
	}
}

// Promise 17.7: scattered trees under what should change nothing.
func TestFlowsSame(t *testing.T) {
	state := uint64(177)
	seen := map[api.Errno]int{}
	for i := range 6000 {
		s := spelled(someTree(&state, 1+below(&state, 7), i%5))
		months := strconv.Itoa(1 + below(&state, 1200))
		got := checkSame(t, "give give "+s, s)
		seen[got.e]++
		for _, about := range []string{"scale 1 ", "both zero ", "repeat 1 " + months + " ", "repeat 1 " + months + " give scale 1 give "} {
			checkSame(t, about+s, s)
		}
		checkSame(t, "both "+s+" zero", s)
		if got.e == api.OK && len(got.l) > 0 {
			seen[1000]++
			checkCut(t, &state, s)
		}
	}
	if seen[api.OK] < 3000 || seen[1000] < 2000 || seen[api.ErrValue] < 30 || seen[api.ErrRange] < 50 {
		t.Errorf("only %v", seen)
	}
}

// checkCut holds that a window is, as a set, the two that it is cut into.
func checkCut(t *testing.T, state *uint64, s string) {
	t.Helper()
	days := []int{someDay(state, true), someDay(state, false), someDay(state, below(state, 2) == 0)}
	slices.Sort(days)
	part := func(a, b int) []api.Flow {
		return means(t, "window "+dayText(days[a])+" "+dayText(days[b])+" "+s).l
	}
	if got, want := slices.Concat(part(0, 1), part(1, 2)), part(0, 2); !sameFlows(sorted(got), sorted(want)) {
		t.Errorf("%q, cut at %v, means %v, not %v", s, days, got, want)
	}
}

// sorted is the flows as a set.
func sorted(l []api.Flow) []api.Flow {
	l = slices.Clone(l)
	slices.SortFunc(l, func(a, b api.Flow) int {
		return strings.Compare(dayText(a.Day)+decimal(a.Cur)+hex(a.Amount), dayText(b.Day)+decimal(b.Cur)+hex(b.Amount))
	})
	return l
}

// Promise 17.5: scattered trees that have many flows, or meet an error.
func TestFlowsScattered(t *testing.T) {
	state := uint64(175)
	seen := map[api.Errno]int{}
	for i := range 6000 {
		l := someTree(&state, 2+below(&state, 7), i%11)
		want := stepFlows(l)
		if got := told(deal.Flows(l)); !got.is(want) {
			t.Errorf("Flows of %q is %v, not %v", spelled(l), got, want)
		}
		seen[want.e]++
	}
	if seen[api.OK] < 2000 || seen[api.ErrRange] < 200 || seen[api.ErrValue] < 100 || seen[api.ErrMany] < 100 {
		t.Errorf("only %v", seen)
	}
}

// Promise 17.8: trees that make much work.
func TestFlowsWork(t *testing.T) {
	const leg = "window 1900-01-01 1900-01-01 fixed 1 1 actact 1950-01-01 2050-01-01 1 1"
	s := leg
	for range 8 {
		s = "both " + s + " " + s
	}
	checkMeans(t, s, flows())
	s = "repeat 4096 1200 zero"
	for range 8 {
		s = "both " + s + " repeat 4096 1200 " + s
	}
	checkMeans(t, s, flows())
	s = "window 1900-01-01 1900-01-02 repeat 3600 1 pay 1 1 1900-01-01"
	for range 60 {
		s = "give " + s
	}
	checkMeans(t, s, flows(f(0, 1, 1)))
	last, _ := date.Months(0, 3599, false)
	got := means(t, "repeat 3600 1 pay 1 1 1900-01-01")
	if got.e != api.OK || len(got.l) != 3600 || got.l[3599].Day != last {
		t.Errorf("%d flows, %v", len(got.l), got.e)
	}
}
