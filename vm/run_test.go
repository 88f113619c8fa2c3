package vm_test

import (
	"testing"

	"tenor/api"
	"tenor/code"
	"tenor/deal"
	"tenor/vm"
)

// checkRun holds a run of code that may be against the chapter's words: in one go, and op by op.
func checkRun(t *testing.T, l []api.Op) course {
	t.Helper()
	c := courseOf(l)
	if got := told(vm.Run(l)); !got.is(c.tells) {
		t.Errorf("Run of %d ops is %d flows, %v, not %d, %v: %v", len(l), len(got.l), got.e, len(c.tells.l), c.tells.e, l[:min(len(l), 20)])
	}
	checkSteps(t, l, c, func() int { return 1 })
	checkBounds(t, l, c)
	return c
}

// checkSteps holds a run by Steps of such numbers of ops.
func checkSteps(t *testing.T, l []api.Op, c course, next func() int) {
	t.Helper()
	m := made(t, l)
	for at, ended := 0, false; !ended; {
		checkTells(t, m, wrong(api.ErrOver))
		n := next()
		done := min(n, c.ops()-at)
		at += done
		want := api.Progress{Done: done}
		if at == c.ops() {
			want.Ended, want.Fault = true, c.tells.e
		}
		checkStep(t, m, n, want, c.sizes[at])
		ended = want.Ended
	}
	checkEnded(t, m, c.tells)
}

// checkBounds holds 19.7 of a run.
func checkBounds(t *testing.T, l []api.Op, c course) {
	t.Helper()
	marks, e := code.Marks(l)
	most := c.most()
	if e != api.OK || most.flows > 4096 || most.marks > marks || c.tells.e == api.OK && most.marks != marks {
		t.Errorf("a run of %v has %v at most, where Marks is %d, %v", l[:min(len(l), 20)], most, marks, e)
	}
}

// Promise 19.2: what each op does, to the bit; what stands ahead of the mark stays.
func TestOps(t *testing.T) {
	p := f(47482, 3, 1) // 2030-01-01
	for _, x := range []struct {
		l    []api.Op
		want answer
	}{
		{list(pay(3)), flows(p)}, {list(pay(minus)), flows(f(47482, minus, 1))}, {list(api.Op{Kind: api.OPay, X: least, Cur: 8, Day: 109572}), flows(f(109572, least, 8))},
		{list(fixed()), flows(f(45851, 2.5, 2), f(46035, 2.5, 2))}, {list(pay(3), fixed(), pay(3)), flows(p, f(45851, 2.5, 2), f(46035, 2.5, 2), p)},
		{list(mark(), give()), flows()}, {list(mark(), scale(0)), flows()}, {list(mark(), window(0, 1)), flows()}, {list(mark(), repeat(4096, 1200)), flows()},
		{list(pay(3), mark(), give(), mark(), scale(2), mark(), window(0, 0), mark(), repeat(2, 1)), flows(p)},
		{list(pay(3), mark(), pay(3), fixed(), give()), flows(p, f(47482, -3, 1), f(45851, -2.5, 2), f(46035, -2.5, 2))},
		{list(mark(), pay(0), pay(minus), give()), flows(f(47482, minus, 1), f(47482, 0, 1))},
		{list(pay(3), mark(), pay(3), pay(minus), scale(-0.5)), flows(p, f(47482, -1.5, 1), f(47482, 0, 1))},
		{list(mark(), pay(least), scale(0.5)), flows(f(47482, 0, 1))}, {list(mark(), pay(-least), scale(0.5)), flows(f(47482, minus, 1))}, {list(mark(), pay(0.1), scale(0.1)), flows(f(47482, 0x1.47ae147ae147cp-7, 1))},
		{list(mark(), pay(greatest), scale(minus)), flows(f(47482, minus, 1))},
		{list(pay(3), mark(), payOn(4), payOn(5), payOn(8), payOn(6), payOn(9), window(5, 9)), flows(p, f(5, 1, 1), f(8, 1, 1), f(6, 1, 1))},
		{list(pay(3), mark(), payOn(4), payOn(5), window(5, 5)), flows(p)}, {list(mark(), payOn(4), payOn(5), window(5, 4)), flows()}, {list(mark(), payOn(0), payOn(109572), window(0, 109572)), flows(f(0, 1, 1))},
		// 2025-01-31, on the months' last days where there is no such day; by months from the first, not one from the other.
		{list(pay(3), mark(), payOn(45686), repeat(4, 1)), flows(p, f(45686, 1, 1), f(45714, 1, 1), f(45745, 1, 1), f(45775, 1, 1))},
		{list(mark(), payOn(45686), repeat(1, 1)), flows(f(45686, 1, 1))},
		{list(mark(), payOn(0), payOn(31), repeat(3, 12)), flows(f(0, 1, 1), f(31, 1, 1), f(365, 1, 1), f(396, 1, 1), f(730, 1, 1), f(761, 1, 1))},
		// Marks one in the other, and one behind the other.
		{list(mark(), pay(1), mark(), pay(2), scale(10), pay(3), give()), flows(f(47482, -1, 1), f(47482, -20, 1), f(47482, -3, 1))},
		{list(mark(), mark(), pay(1), scale(10), mark(), pay(2), scale(100), give()), flows(f(47482, -10, 1), f(47482, -200, 1))},
		{list(mark(), pay(1), mark(), payOn(4), window(5, 6), pay(2), give(), pay(3)), flows(f(47482, -1, 1), f(47482, -2, 1), f(47482, 3, 1))},
		{list(mark(), payOn(0), mark(), payOn(31), repeat(2, 12), repeat(2, 1)), flows(f(0, 1, 1), f(31, 1, 1), f(396, 1, 1), f(31, 1, 1), f(59, 1, 1), f(424, 1, 1))},
	} {
		if c := checkRun(t, x.l); !c.tells.is(x.want) {
			t.Errorf("the steps tell %v of %v, not %v", c.tells, x.l, x.want)
		}
	}
}

// Promise 19.2: ops that meet an error: it is the Fault, the op counts, and the machine is as it was ahead of it.
func TestFaults(t *testing.T) {
	last := 109572
	for _, x := range []struct {
		l    []api.Op
		e    api.Errno
		done int
		left size
	}{
		// OFixed: flow.Fixed's.
		{list(api.Op{Kind: api.OFixed, X: greatest, Y: 2, Count: api.D360, To: 1, N: 1, Cur: 1}), api.ErrValue, 1, size{}},
		{list(pay(1), mark(), pay(1), api.Op{Kind: api.OFixed, X: greatest, Y: 1, Count: api.D360, To: 800, N: 1200, Cur: 1}, give(), pay(1)), api.ErrValue, 4, size{2, 1}},
		{list(pay(1), monthly(100)), api.OK, 2, size{1201, 0}}, {list(pay(1), monthly(101), pay(1)), api.ErrMany, 2, size{1, 0}},
		// OFixed: more flows than there may be, of which none is left; flow.Fixed's error ahead of that.
		{append(filled(4094), fixed()), api.OK, 7, size{4096, 0}}, {append(filled(4095), fixed()), api.ErrMany, 7, size{4095, 0}}, {append(filled(4096), fixed()), api.ErrMany, 7, size{4096, 0}},
		{append(filled(2896), monthly(100)), api.OK, 4, size{4096, 0}}, {append(filled(2897), monthly(100)), api.ErrMany, 4, size{2897, 0}}, {join(list(mark()), filled(4095), list(mark(), fixed(), give(), give())), api.ErrMany, 9, size{4095, 2}},
		{append(filled(4096), api.Op{Kind: api.OFixed, X: greatest, Y: 2, Count: api.D360, To: 1, N: 1, Cur: 1}), api.ErrValue, 7, size{4096, 0}},
		{append(filled(4095), api.Op{Kind: api.OFixed, X: greatest, Y: 1, Count: api.D360, To: 800, N: 1, Cur: 1}), api.ErrMany, 7, size{4095, 0}},
		// OPay.
		{append(filled(4095), pay(1)), api.OK, 7, size{4096, 0}}, {append(filled(4096), pay(1)), api.ErrMany, 7, size{4096, 0}}, {join(filled(4096), list(mark(), pay(1), give())), api.ErrMany, 8, size{4096, 1}},
		{join(times(4096, pay(1)), list(pay(1), pay(1))), api.ErrMany, 4097, size{4096, 0}},
		// OScale: at the first flow behind the mark, at the last; the mark stays.
		{list(mark(), pay(1e308), scale(10)), api.ErrValue, 3, size{1, 1}}, {list(pay(9), mark(), pay(1), pay(2), pay(-greatest), scale(1+0x1p-52), pay(1)), api.ErrValue, 6, size{4, 1}},
		{list(mark(), mark(), pay(1), pay(greatest), pay(1), scale(2), give()), api.ErrValue, 6, size{3, 2}}, {list(pay(greatest), mark(), pay(1), scale(2)), api.OK, 4, size{2, 0}},
		{list(mark(), pay(greatest), scale(1)), api.OK, 3, size{1, 0}},
		// ORepeat: out of the days; the mark stays, the copies do not.
		{list(mark(), payOn(last), repeat(2, 1)), api.ErrRange, 3, size{1, 1}}, {list(mark(), payOn(last), repeat(1, 1200)), api.OK, 3, size{1, 0}}, {list(mark(), payOn(last-31), repeat(2, 1)), api.OK, 3, size{2, 0}},
		{list(pay(1), mark(), mark(), payOn(0), pay(1), payOn(last), repeat(2, 1), give()), api.ErrRange, 7, size{4, 2}}, {list(mark(), payOn(0), repeat(3600, 1)), api.OK, 3, size{3600, 0}},
		{list(mark(), payOn(0), repeat(3601, 1)), api.ErrRange, 3, size{1, 1}}, {list(mark(), payOn(0), repeat(4, 1200)), api.ErrRange, 3, size{1, 1}}, {list(mark(), payOn(0), repeat(3, 1200)), api.OK, 3, size{3, 0}},
		// ORepeat: more than there may be.
		{list(mark(), payOn(0), payOn(0), repeat(2048, 1)), api.OK, 4, size{4096, 0}}, {list(mark(), payOn(0), payOn(0), repeat(2049, 1)), api.ErrMany, 4, size{2, 1}},
		{list(mark(), payOn(0), payOn(0), payOn(0), repeat(1366, 1)), api.ErrMany, 5, size{3, 1}}, {list(pay(1), mark(), payOn(0), payOn(0), payOn(0), repeat(1365, 1)), api.OK, 6, size{4096, 0}},
		{list(pay(1), pay(1), mark(), payOn(0), payOn(0), payOn(0), repeat(1365, 1)), api.ErrMany, 7, size{5, 1}},
		{list(mark(), mark(), payOn(0), repeat(64, 1), repeat(64, 1)), api.OK, 5, size{4096, 0}}, {list(mark(), mark(), payOn(0), repeat(64, 1), repeat(65, 1)), api.ErrMany, 5, size{64, 1}},
		// ORepeat: which of both comes first, flow by flow.
		{join(filled(4095), list(mark(), payOn(last), repeat(2, 1))), api.ErrMany, 9, size{4096, 1}}, {join(filled(4094), list(mark(), payOn(last), repeat(2, 1))), api.ErrRange, 9, size{4095, 1}},
		{join(filled(4093), list(mark(), payOn(0), payOn(last), repeat(2, 1))), api.ErrMany, 10, size{4095, 1}}, {join(filled(4092), list(mark(), payOn(0), payOn(last), repeat(2, 1))), api.ErrRange, 10, size{4094, 1}},
		{join(filled(4092), list(mark(), payOn(last), payOn(0), repeat(2, 1))), api.ErrRange, 10, size{4094, 1}}, {join(filled(496), list(mark(), payOn(0), repeat(3601, 1))), api.ErrMany, 6, size{497, 1}},
		{join(filled(495), list(mark(), payOn(0), repeat(3601, 1))), api.ErrRange, 6, size{496, 1}},
		// At the bound: what adds nothing goes on.
		{join(filled(4095), list(mark(), payOn(last), repeat(1, 1))), api.OK, 9, size{4096, 0}}, {join(filled(4096), list(mark(), repeat(4096, 1200), mark(), scale(2), mark(), give())), api.OK, 12, size{4096, 0}},
		// What a window leaves out makes room.
		{join(list(mark()), filled(4096), list(window(0, 1), pay(1))), api.OK, 9, size{3, 0}}, {join(list(mark()), filled(4096), list(window(1, 2)), filled(4096), list(fixed())), api.ErrMany, 15, size{4096, 0}},
	} {
		c := checkRun(t, x.l)
		if c.tells.e != x.e || c.ops() != x.done || c.sizes[c.ops()] != x.left {
			t.Errorf("the steps tell %v, %d, %v of %v, not %v, %d, %v", c.tells.e, c.ops(), c.sizes[c.ops()], x.l[:min(len(x.l), 20)], x.e, x.done, x.left)
		}
	}
}

// Promise 19.6: short code in all ways of cutting it into Steps.
func TestAllSteps(t *testing.T) {
	for _, l := range [][]api.Op{
		list(pay(7), mark(), pay(3), mark(), fixed(), give(), mark(), repeat(9, 9), scale(2)),
		list(mark(), pay(3), mark(), payOn(109572), repeat(2, 1), fixed(), give()),
		list(mark(), pay(greatest), scale(2)), list(pay(1)), nil,
	} {
		c := courseOf(l)
		for cuts := range 1 << max(len(l)-1, 0) {
			rest := cuts
			checkSteps(t, l, c, func() int { // each bit says whether there is a cut ahead of the next op
				n := 1
				for ; rest != 0 && rest&1 == 0; rest >>= 1 {
					n++
				}
				if rest == 0 {
					n = len(l) + 1
				}
				rest >>= 1
				return n
			})
		}
	}
}

// Promises 19.2 to 19.4, 19.6 and 19.7: scattered code, run in one go, op by op and by scattered Steps; copies of scattered places go on alike; trimmed it means the same.
func TestScattered(t *testing.T) {
	state := uint64(192)
	seen := map[api.Errno]int{}
	for i := range 4000 {
		l := someCode(&state, below(&state, 20+i%8*12), i%11, 2+i%6)
		if i%12 == 0 { // about the greatest number of flows
			l = join(filled(4060+below(&state, 37)), l)
		}
		c := checkRun(t, l)
		seen[c.tells.e]++
		if c.most().flows > 2000 {
			seen[1000]++
		}
		checkSteps(t, l, c, func() int { return 1 + below(&state, 12) })
		checkCopies(t, l, c, &state)
		if got := told(vm.Run(trimmed(l))); !got.is(c.tells) {
			t.Errorf("%v, trimmed, tells %v", l, got.e)
		}
	}
	if seen[api.OK] < 2000 || seen[api.ErrMany] < 300 || seen[api.ErrValue] < 200 || seen[api.ErrRange] < 300 || seen[1000] < 300 {
		t.Errorf("only %v", seen)
	}
}

// checkCopies steps a machine to its end, and then, in a scattered order, copies of it from the places where they were made.
func checkCopies(t *testing.T, l []api.Op, c course, state *uint64) {
	t.Helper()
	copies := map[int]*vm.Machine{}
	m := made(t, l)
	for at := 0; at < c.ops(); {
		copies[at] = m.Copy()
		p, _ := m.Step(1 + below(state, 9))
		at += p.Done
	}
	for at, same := range copies {
		checkSize(t, same, c.sizes[at])
		checkStep(t, same, len(l), api.Progress{Done: c.ops() - at, Ended: true, Fault: c.tells.e}, c.sizes[c.ops()])
		checkTells(t, same, c.tells)
	}
}

// checkDeal holds W7 of a tree: its flows, or its error, by its code and by its trimmed code.
func checkDeal(t *testing.T, tree []api.Term) answer {
	t.Helper()
	want := told(deal.Flows(tree))
	l, e := code.Compile(tree)
	if e != api.OK {
		t.Fatalf("Compile of %v is %v", tree, e)
	}
	if got := told(vm.Run(l)); !got.is(want) {
		t.Errorf("Run of the code of %v is %d flows, %v, not %d, %v", tree, len(got.l), got.e, len(want.l), want.e)
	}
	if got := told(vm.Run(trimmed(l))); !got.is(want) {
		t.Errorf("Run of the trimmed code of %v is %d flows, %v, not %d, %v", tree, len(got.l), got.e, len(want.l), want.e)
	}
	return want
}

// Promise 19.5: deals as texts.
func TestDeals(t *testing.T) {
	for s, want := range map[string]answer{
		"zero": flows(), "pay 100 1 2030-01-01": flows(f(47482, 100, 1)), "give give pay 100 1 2030-01-01": flows(f(47482, 100, 1)),
		"scale 0.5 both pay 1 1 2030-01-01 give pay 3 2 2031-01-01":                    flows(f(47482, 0.5, 1), f(47847, -1.5, 2)),
		"repeat 3 12 pay 5 1 2030-01-31":                                               flows(f(47512, 5, 1), f(47877, 5, 1), f(48242, 5, 1)),
		"window 2030-01-01 2031-01-01 repeat 3 12 pay 5 1 2030-01-31":                  flows(f(47512, 5, 1)),
		"fixed 100 0.05 euro 2025-01-15 2026-01-15 6 1":                                flows(f(45851, 2.5, 1), f(46035, 2.5, 1)),
		"scale 10 pay 1e308 1 2030-01-01":                                              wrong(api.ErrValue),
		"repeat 2 1 pay 1 1 2199-12-31":                                                wrong(api.ErrRange),
		"repeat 4096 1 pay 1 1 1900-01-01":                                             wrong(api.ErrRange),
		"repeat 2049 1 both pay 1 1 1900-01-01 pay 1 1 1900-01-01":                     wrong(api.ErrMany),
		"fixed 1 1 euro 1900-01-01 2001-01-01 1 1":                                     wrong(api.ErrMany),
		"both scale 10 pay 1e308 1 2030-01-01 repeat 2 1 pay 1 1 2199-12-31":           wrong(api.ErrValue),
		"both repeat 2 1 pay 1 1 2199-12-31 scale 10 pay 1e308 1 2030-01-01":           wrong(api.ErrRange),
		"window 1900-01-01 1900-01-01 scale 10 pay 1e308 1 2030-01-01":                 wrong(api.ErrValue),
		"scale 10 window 1900-01-01 1900-01-01 pay 1e308 1 2030-01-01":                 flows(),
		"scale 1 repeat 1 7 give give both zero give zero":                             flows(),
		"scale 0x1p+1 scale 0.5 scale 1e308 scale 0 pay 1e308 8 2199-12-31":            flows(f(109572, 0, 8)),
		"both window 1900-01-01 1900-02-01 repeat 3600 1 pay 1 1 1900-01-01 give zero": flows(f(0, 1, 1)),
	} {
		if got := checkDeal(t, parsed(s)); !got.is(want) {
			t.Errorf("%s means %v, not %v", s, got, want)
		}
	}
}

// Promise 19.5: scattered trees.
func TestDealsScattered(t *testing.T) {
	state := uint64(195)
	seen := map[api.Errno]int{}
	for i := range 12000 {
		seen[checkDeal(t, someTree(&state, 1+below(&state, 9), i%11)).e]++
	}
	if seen[api.OK] < 5000 || seen[api.ErrMany] < 100 || seen[api.ErrValue] < 300 || seen[api.ErrRange] < 300 {
		t.Errorf("only %v", seen)
	}
}

// Promises 19.5 and 19.7: the deepest deal, and code that no tree has.
func TestLimits(t *testing.T) {
	deep := []api.Term{{Kind: api.TPay, X: 3, Cur: 1, Day: 47482}}
	for i := range 63 {
		deep = append(deep, api.Term{Kind: api.TGive, A: i})
	}
	if got := checkDeal(t, deep); !got.is(flows(f(47482, -3, 1))) {
		t.Errorf("sixty-three gives tell %v", got)
	}
	for _, x := range []struct {
		l    []api.Op
		most size
		e    api.Errno
	}{
		{join(times(63, mark()), list(pay(1)), times(63, give())), size{1, 63}, api.OK}, {join(times(63, mark(), pay(1)), times(63, scale(-1))), size{63, 63}, api.OK},
		{times(4096, mark(), give()), size{0, 1}, api.OK}, {times(4096, pay(1)), size{4096, 0}, api.OK}, {times(8192, pay(1)), size{4096, 0}, api.ErrMany}, {times(2730, mark(), payOn(5), window(0, 5)), size{1, 1}, api.OK},
		{join(times(62, mark()), filled(3600), times(62, give())), size{3600, 63}, api.OK}, {join(times(62, mark()), filled(4096), times(62, window(0, 31))), size{4096, 63}, api.OK},
	} {
		c := checkRun(t, x.l)
		if c.most() != x.most || c.tells.e != x.e {
			t.Errorf("the steps tell %v, %v of %d ops, not %v, %v", c.most(), c.tells.e, len(x.l), x.most, x.e)
		}
	}
}

// Promise 19.8: the code that is the most work.
func TestWork(t *testing.T) {
	for _, x := range []struct {
		l     []api.Op
		flows int
		e     api.Errno
	}{
		{times(497, mark(), mark(), payOn(0), repeat(3600, 1), window(0, 1)), 497, api.OK},
		{times(498, mark(), mark(), payOn(0), repeat(3600, 1), window(0, 1)), 0, api.ErrMany},
		{times(1638, mark(), mark(), payOn(0), repeat(3600, 1), window(1, 1)), 0, api.OK},
		{times(1638, mark(), monthly(100), monthly(100), monthly(100), window(0, 0)), 0, api.OK},
		{join(times(62, mark()), filled(4096), times(62, scale(-1))), 4096, api.OK},
		{times(303, join(times(13, mark()), list(payOn(0)), times(12, repeat(2, 1)), list(window(0, 0)))...), 0, api.OK},
	} {
		if got := told(vm.Run(x.l)); len(got.l) != x.flows || got.e != x.e {
			t.Errorf("Run of %d ops is %d flows, %v, not %d, %v", len(x.l), len(got.l), got.e, x.flows, x.e)
		}
	}
}
