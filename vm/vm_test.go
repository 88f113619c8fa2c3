package vm_test

import (
	"math"
	"slices"
	"testing"

	"tenor/api"
	"tenor/code"
	"tenor/vm"
)

// made is a machine of code that may be.
func made(t *testing.T, l []api.Op) *vm.Machine {
	t.Helper()
	m, e, at := vm.New(l)
	if m == nil || e != api.OK || at != 0 {
		t.Fatalf("New of %d ops, %v .., is %v, %d", len(l), l[:min(len(l), 9)], e, at)
	}
	return m
}

// checkStep holds what a Step of n tells, and the size behind it.
func checkStep(t *testing.T, m *vm.Machine, n int, want api.Progress, behind size) {
	t.Helper()
	if p, e := m.Step(n); p != want || e != api.OK {
		t.Errorf("Step(%d) is %v, %v, not %v", n, p, e, want)
	}
	checkSize(t, m, behind)
}

// refuseStep holds that a Step of n is refused, and tells nothing else.
func refuseStep(t *testing.T, m *vm.Machine, n int, want api.Errno) {
	t.Helper()
	if p, e := m.Step(n); p != (api.Progress{}) || e != want {
		t.Errorf("Step(%d) is %v, %v, not %v", n, p, e, want)
	}
}

func checkSize(t *testing.T, m *vm.Machine, want size) {
	t.Helper()
	if got := sizeOf(m.Size()); got != want {
		t.Errorf("Size is %v, not %v", got, want)
	}
}

// checkTells holds what Flows tells.
func checkTells(t *testing.T, m *vm.Machine, want answer) {
	t.Helper()
	if got := told(m.Flows()); !got.is(want) {
		t.Errorf("Flows is %d, %v, not %d, %v: %v", len(got.l), got.e, len(want.l), want.e, got.l[:min(len(got.l), 9)])
	}
}

// checkEnded holds that the run has ended: nothing more is done, and what it tells stays.
func checkEnded(t *testing.T, m *vm.Machine, want answer) {
	t.Helper()
	behind := sizeOf(m.Size())
	for _, n := range []int{1, 0, -1, math.MinInt, math.MaxInt} {
		checkTells(t, m, want)
		refuseStep(t, m, n, api.ErrOver)
		checkSize(t, m, behind)
	}
	checkTells(t, m, want)
}

// The chapter's examples.
func TestExamples(t *testing.T) {
	m := made(t, list(mark(), payOn(0), scale(2)))
	checkStep(t, m, 1, api.Progress{Done: 1}, size{0, 1})
	checkTells(t, m, wrong(api.ErrOver))
	checkStep(t, m, 5, api.Progress{Done: 2, Ended: true}, size{1, 0})
	checkTells(t, m, flows(f(0, 2, 1)))
	refuseStep(t, m, 1, api.ErrOver)
	if got := told(vm.Run(nil)); !got.is(flows()) {
		t.Errorf("Run of nothing is %v", got)
	}
	if got := told(vm.Run(list(mark(), pay(1e308), scale(10)))); !got.is(wrong(api.ErrValue)) {
		t.Errorf("Run of a scale that is too great is %v", got)
	}
}

// refuseCode holds that neither call takes the code, and that New tells the place.
func refuseCode(t *testing.T, l []api.Op, want api.Errno, place int) {
	t.Helper()
	if m, e, at := vm.New(l); m != nil || e != want || at != place {
		t.Errorf("New of %d ops, %v .., is %v, %v, %d, not %v, %d", len(l), l[:min(len(l), 9)], m, e, at, want, place)
	}
	if got := told(vm.Run(l)); !got.is(wrong(want)) {
		t.Errorf("Run of %d ops, %v .., is %d flows, %v, not %v", len(l), l[:min(len(l), 9)], len(got.l), got.e, want)
	}
}

// Promises 19.1 and 19.4: code that may not be.
func TestRefusedCode(t *testing.T) {
	for _, x := range []struct {
		l  []api.Op
		e  api.Errno
		at int
	}{
		{list(give()), api.ErrCode, 0}, {list(mark()), api.ErrCode, 1}, {list(pay(1), scale(2)), api.ErrCode, 1}, {list(mark(), pay(1), give(), give()), api.ErrCode, 3},
		{list(mark(), mark(), pay(1), window(1, 2)), api.ErrCode, 4}, {list(api.Op{}), api.ErrCode, 0}, {list(pay(1), api.Op{Kind: 8}), api.ErrCode, 1}, {list(api.Op{Kind: -1}), api.ErrCode, 0},
		{list(api.Op{Kind: math.MaxInt}), api.ErrCode, 0}, {list(pay(1), pay(nan)), api.ErrCode, 1}, {list(pay(inf)), api.ErrCode, 0}, {list(mark(), pay(1), scale(-inf)), api.ErrCode, 2},
		{list(payOn(-1)), api.ErrCode, 0}, {list(payOn(109573)), api.ErrCode, 0}, {list(mark(), repeat(0, 1)), api.ErrCode, 1}, {list(mark(), repeat(4097, 1)), api.ErrCode, 1},
		{list(mark(), repeat(2, 1201)), api.ErrCode, 1}, {list(mark(), api.Op{Kind: api.OGive, X: minus}), api.ErrCode, 1}, {list(api.Op{Kind: api.OMark, N: 1}, give()), api.ErrCode, 0},
		{list(api.Op{Kind: api.OFixed, X: 1, Y: 1, Count: api.DOpen, To: 1, N: 1, Cur: 1}), api.ErrCode, 0},
		// What runs ahead of the op that may not be is not run.
		{list(mark(), pay(greatest), scale(2), give()), api.ErrCode, 3}, {join(filled(4096), list(pay(1), mark())), api.ErrCode, 8},
		{times(64, mark()), api.ErrDeep, 63}, {join(list(pay(1)), times(64, mark()), times(64, give())), api.ErrDeep, 64},
		{times(8193, pay(1)), api.ErrLong, 0}, {make([]api.Op, 8193), api.ErrLong, 0},
	} {
		refuseCode(t, x.l, x.e, x.at)
	}
}

// Promise 19.1: scattered code with an op turned, left out or put in: code.Check's error and place.
func TestRefusedScattered(t *testing.T) {
	state := uint64(191)
	seen := map[api.Errno]int{}
	for i := range 3000 {
		l := someCode(&state, 1+below(&state, 20), i%3, 2+i%5)
		place := below(&state, len(l))
		switch i % 3 {
		case 0:
			l[place].Kind = below(&state, 9)
		case 1:
			l = slices.Delete(l, place, place+1)
		case 2:
			l = slices.Insert(l, place, l[below(&state, len(l))])
		}
		e, at := code.Check(l)
		if seen[e]++; e != api.OK {
			refuseCode(t, l, e, at)
		} else {
			made(t, l)
		}
	}
	if seen[api.OK] < 500 || seen[api.ErrCode] < 1000 {
		t.Errorf("only %v", seen)
	}
}

// Promise 19.1: a machine is ahead of the first op, whatever that does.
func TestNew(t *testing.T) {
	for _, l := range [][]api.Op{nil, {}, list(pay(1)), list(fixed()), list(mark(), give()), filled(4096), times(8192, pay(1)), join(times(63, mark()), times(63, give()))} {
		m := made(t, l)
		checkSize(t, m, size{})
		checkTells(t, m, wrong(api.ErrOver))
	}
}

// Promise 19.2: a Step of no op is refused, and changes nothing; a run that has ended is told first.
func TestStepRefuses(t *testing.T) {
	m := made(t, list(mark(), pay(3), pay(4), give()))
	for i, behind := range []size{{0, 0}, {0, 1}, {1, 1}, {2, 1}} {
		for _, n := range []int{0, -1, -2, math.MinInt} {
			refuseStep(t, m, n, api.ErrArg)
			checkSize(t, m, behind)
			checkTells(t, m, wrong(api.ErrOver))
		}
		if p, e := m.Step(1); p != (api.Progress{Done: 1, Ended: i == 3}) || e != api.OK {
			t.Errorf("Step %d is %v, %v", i, p, e)
		}
	}
	checkEnded(t, m, flows(f(47482, -3, 1), f(47482, -4, 1)))
}

// Promise 19.2: code without ops ends in the first Step.
func TestStepOfNothing(t *testing.T) {
	for _, l := range [][]api.Op{nil, {}} {
		for _, n := range []int{1, 2, math.MaxInt} {
			m := made(t, l)
			refuseStep(t, m, 0, api.ErrArg)
			checkTells(t, m, wrong(api.ErrOver))
			checkStep(t, m, n, api.Progress{Ended: true}, size{})
			checkEnded(t, m, flows())
		}
	}
}

// Promise 19.2: the run ends with the last op, not behind it; a Step does no more ops than there are.
func TestStepEnds(t *testing.T) {
	l := list(pay(3), pay(4), pay(5))
	all := flows(f(47482, 3, 1), f(47482, 4, 1), f(47482, 5, 1))
	for _, x := range []struct{ steps, done []int }{
		{[]int{3}, []int{3}}, {[]int{4}, []int{3}}, {[]int{math.MaxInt}, []int{3}}, {[]int{1, 2}, []int{1, 2}}, {[]int{2, 1}, []int{2, 1}}, {[]int{2, 2}, []int{2, 1}}, {[]int{1, 1, 1}, []int{1, 1, 1}},
		{[]int{1, math.MaxInt}, []int{1, 2}},
	} {
		m := made(t, l)
		at := 0
		for i, n := range x.steps {
			at += x.done[i]
			checkStep(t, m, n, api.Progress{Done: x.done[i], Ended: at == 3}, size{at, 0})
		}
		checkEnded(t, m, all)
	}
}

// Promise 19.3: a copy stands at the same place: ahead of the first op, on the way, at the end, at a fault.
func TestCopy(t *testing.T) {
	good := list(pay(7), mark(), pay(3), mark(), pay(4), give(), scale(2))
	bad := append(slices.Clone(good[:6]), scale(greatest))
	for _, l := range [][]api.Op{nil, good, bad} {
		c := courseOf(l)
		for at := range c.ops() + 1 {
			m := made(t, l)
			if at > 0 || c.ops() == 0 {
				m.Step(max(at, 1))
			}
			same := m.Copy()
			checkSize(t, same, c.sizes[at])
			if at < c.ops() {
				checkTells(t, same, wrong(api.ErrOver))
				checkStep(t, m, 99, api.Progress{Done: c.ops() - at, Ended: true, Fault: c.tells.e}, c.sizes[c.ops()])
				checkSize(t, same, c.sizes[at])
				checkTells(t, same, wrong(api.ErrOver))
				checkStep(t, same, 99, api.Progress{Done: c.ops() - at, Ended: true, Fault: c.tells.e}, c.sizes[c.ops()])
			}
			checkEnded(t, m, c.tells)
			checkEnded(t, same, c.tells)
			checkEnded(t, m.Copy(), c.tells)
		}
	}
}

// Promise 19.3: neither of a machine and its copy knows what the other does, whichever goes first.
func TestCopyAlone(t *testing.T) {
	l := list(mark(), pay(1), pay(2), pay(3), mark(), pay(4), pay(5), scale(10), mark(), pay(6), window(0, 1), give())
	want := flows(f(47482, -1, 1), f(47482, -2, 1), f(47482, -3, 1), f(47482, -40, 1), f(47482, -50, 1))
	for at := 1; at < len(l); at++ {
		first := made(t, l)
		first.Step(at)
		second := first.Copy()
		for done := at; done < len(l); done++ { // in turns
			for _, m := range []*vm.Machine{first, second} {
				if p, e := m.Step(1); p != (api.Progress{Done: 1, Ended: done == len(l)-1}) || e != api.OK {
					t.Errorf("Step is %v, %v", p, e)
				}
			}
		}
		checkEnded(t, second, want)
		checkEnded(t, first, want)
		third := made(t, l)
		third.Step(at)
		fourth := third.Copy()
		fourth.Step(99)
		checkStep(t, third, 99, api.Progress{Done: len(l) - at, Ended: true}, size{5, 0})
		checkEnded(t, fourth, want)
		checkEnded(t, third, want)
	}
}

// spoil writes over a list and the room behind it.
func spoil[T any](l []T, filler T) {
	l = l[:cap(l)]
	for i := range l {
		l[i] = filler
	}
}

// Promise 19.8 and rule 3 of DOC.md: what is given is neither changed nor kept, its spare room too; what is told is new memory.
func TestMemory(t *testing.T) {
	strange, odd := api.Op{Kind: 77, X: 7, N: 7}, f(-7, nan, 77)
	for _, given := range [][]api.Op{
		list(pay(1)), list(pay(1), fixed()), list(mark(), pay(1), pay(2), give()), list(mark(), fixed(), scale(2), pay(3)), list(pay(1), mark(), pay(2), repeat(9, 1)),
		list(mark(), fixed(), pay(1), window(47000, 48000)),
	} {
		want := courseOf(given).tells
		all := append(slices.Clone(given), strange, strange, strange)
		l := all[:len(given)]
		kept := slices.Clone(all)
		m := made(t, l)
		m.Step(2)
		whole := told(vm.Run(l))
		if !whole.is(want) {
			t.Errorf("Run of %v is %v, not %v", l, whole, want)
		}
		if !slices.Equal(all, kept) {
			t.Errorf("%v was changed", given)
		}
		spoil(all, strange)
		m.Copy().Step(99)
		m.Step(99)
		for range 3 {
			checkTells(t, m, want)
			tells, _ := m.Flows()
			c := m.Copy()
			spoil(tells, odd)
			tells, _ = c.Flows()
			spoil(tells, odd)
			checkTells(t, c, want)
		}
		checkEnded(t, m, want)
		spoil(whole.l, odd)
		checkEnded(t, m, want)
	}
}
