package code_test

import (
	"testing"

	"tenor/api"
	"tenor/code"
)

// checkTrimmed holds what Trim tells of code.
func checkTrimmed(t *testing.T, l, want []api.Op) {
	t.Helper()
	if got := opsOf(code.Trim(l)); !got.is(ops{want, api.OK}) {
		t.Errorf("Trim of %d ops, %s .., is %d, %s .., %v, not %d, %s ..", len(l), letters(l[:min(len(l), 99)]), len(got.l), letters(got.l[:min(len(got.l), 99)]), got.e, len(want), letters(want[:min(len(want), 99)]))
	}
}

// checkTrim holds Trim of code that may be against the chapter's words, and tells what is left.
func checkTrim(t *testing.T, l []api.Op) []api.Op {
	t.Helper()
	want := stepTrim(l)
	checkTrimmed(t, l, want)
	got, _ := code.Trim(l)
	if len(got) > len(l) {
		t.Errorf("Trim of %s is longer: %s", letters(l), letters(got))
	}
	if places := stepFind(got); places != nil {
		t.Errorf("Trim of %s is %s, where %v can go", letters(l), letters(got), places)
	}
	if e, at := code.Check(got); e != api.OK {
		t.Errorf("Trim of %s is %s, which is %v, %d", letters(l), letters(got), e, at)
	}
	checkTrimmed(t, got, got)
	return want
}

// Promise 18.5: each rule, alone and with others.
func TestTrimRules(t *testing.T) {
	for s, want := range map[string]string{
		"": "", "p": "p", "pf": "pf",
		// A mark and its own taker right behind it.
		"(g": "", "(S": "", "(s": "", "(w": "", "(R": "", "(r": "", "p(gf": "pf", "((gg": "", "((RS": "", "(((wgS": "", "(p(Sg": "(pg", "((SpS": "(pS", "(g(S(w": "", "((g(g(gS": "",
		// What turns nothing.
		"(ps": "p", "(pr": "p", "(pS": "(pS", "(pR": "(pR", "(pw": "(pw", "(pg": "(pg", "((psr": "p", "((pSs": "(pS", "((psS": "(pS", "(p(frs": "pf", "p(pfsf": "ppff", "(p(fSr": "p(fS", "((pgfs": "(pgf",
		// Pairs of gives.
		"((pgg": "p", "(((pggg": "(pg", "((((pgggg": "p", "((pfgg": "pf", "p((pggp": "ppp", "((p(fggg": "p(fg", "(p((fggg": "(pfg", "((p(fSgg": "p(fS", "(((pSgg": "(pS", "((((pfgg(fggg": "pf(fg",
		// Gives whose marks do not stand right behind each other, and marks whose gives do not.
		"(p(fgg": "(p(fgg", "((pgfg": "((pgfg", "((pg(fgg": "((pg(fgg", "(pg(pg": "(pg(pg", "(((pg(fgSg": "(((pg(fgSg", "((pSg": "((pSg", "((pgS": "((pgS", "(((pgSg": "(((pgSg", "((pSS": "((pSS",
		"((p(fgg(pgg": "((p(fgg(pgg", "(((pg(pggg": "(pg(pg", "(p((fg(pggg": "(p((fg(pggg",
		// Those that come together as others go.
		"(((psgg": "p", "(((pgsg": "p", "(((pgrg": "p", "((pg(gg": "p", "((g(pgg": "p", "((g(pg(Sg": "p", "(((S(pggg": "(pg", "((((pggSg": "((pSg", "(((pgg(fgg": "(p(fgg",
		"((pfs(fgg": "(pf(fgg", "(((psg(Sg": "p", "(s(p(rg": "(pg", "(((p(gggg": "(pg", "((p(gsfg": "(pfg",
		// One that more than one rule fits.
		"(((gsg": "", "(((ggs": "", "(((sgg": "", "(((grg": "", "((((gggg": "", "(((ggg": "",
	} {
		if got := letters(checkTrim(t, spelled(s))); got != want {
			t.Errorf("the steps tell %s of %s, not %s", got, s, want)
		}
	}
}

// Promise 18.5: an op that turns flows, be it by little, stays.
func TestTrimNumbers(t *testing.T) {
	for _, x := range []float64{0, minus, -1, 2, 0.5, 1 + 0x1p-52, 1 - 0x1p-53, least, greatest} {
		l := list(mark(), pay(3), scale(x))
		checkTrimmed(t, l, l)
	}
	for _, n := range []int{2, 3, 4096} {
		l := list(mark(), pay(3), repeat(n, 1))
		checkTrimmed(t, l, l)
	}
	for _, months := range []int{1, 2, 1200} {
		checkTrimmed(t, list(mark(), pay(3), repeat(1, months)), list(pay(3)))
	}
	for _, l := range [][]api.Op{list(mark(), pay(3), window(0, 109572)), list(mark(), pay(3), window(5, 5)), list(mark(), mark(), pay(3), scale(-1), scale(-1))} {
		checkTrimmed(t, l, l)
	}
	// What is left is what stood there, to the bit.
	odd := api.Op{Kind: api.OPay, X: minus, Cur: 8, Day: 109572}
	checkTrimmed(t, list(odd, mark(), fixed(), odd, scale(1), mark(), odd, scale(minus), mark(), give()), list(odd, fixed(), odd, mark(), odd, scale(minus)))
}

// Promises 18.5 and 18.7: all code of marks, a pay and three kinds of takers, up to eight ops.
func TestTrimAll(t *testing.T) {
	count := 0
	var visit func(s string, marks int)
	visit = func(s string, marks int) {
		if len(s)+marks > 8 { // each mark is still to be taken away
			return
		}
		if marks == 0 {
			checkTrim(t, spelled(s))
			count++
		} else {
			visit(s+"g", marks-1)
			visit(s+"s", marks-1)
			visit(s+"S", marks-1)
		}
		visit(s+"(", marks+1)
		visit(s+"p", marks)
	}
	visit("", 0)
	if count < 5000 {
		t.Errorf("only %d", count)
	}
}

// Promises 18.5, 18.6 and 18.7: scattered code, and what it means ahead of Trim and behind it.
func TestTrimScattered(t *testing.T) {
	state := uint64(185)
	seen := map[api.Errno]int{}
	for i := range 6000 {
		l := someCode(&state, below(&state, 30+i%8*15), i%11, 2+i%6)
		short := checkTrim(t, l)
		means := stepRun(l)
		checkMeans(t, short, means)
		seen[means.e]++
		if len(short) < len(l) {
			seen[1000]++
		}
		if len(l)-len(short) > 20 {
			seen[2000]++
		}
	}
	if seen[api.OK] < 3000 || seen[api.ErrMany] < 100 || seen[api.ErrValue] < 100 || seen[api.ErrRange] < 300 || seen[1000] < 5000 || seen[2000] < 1000 {
		t.Errorf("only %v", seen)
	}
}

// Promise 18.6: what Trim leaves out is worth nothing where the number of flows comes to its bound, too.
func TestTrimMany(t *testing.T) {
	full := list(mark(), api.Op{Kind: api.OPay, X: 1, Cur: 1}, repeat(3600, 1)) // a month each of all there are
	for _, x := range []struct {
		l []api.Op
		e api.Errno
	}{
		{join(full, list(mark()), times(496, pay(1)), list(repeat(1, 1200))), api.OK},
		{join(full, list(mark()), times(497, pay(1)), list(repeat(1, 1200))), api.ErrMany},
		{join(full, times(496, pay(1)), list(mark(), repeat(4096, 1200))), api.OK},
		{join(full, list(mark(), mark()), times(496, pay(1)), list(give(), give(), pay(1))), api.ErrMany},
		{join(list(mark()), full, times(496, pay(1)), list(scale(1))), api.OK},
		{list(mark(), mark(), pay(greatest), scale(1), scale(2)), api.ErrValue},
		{list(mark(), mark(), mark(), pay(greatest), give(), scale(2), give()), api.ErrValue},
		{list(mark(), mark(), pay(1), repeat(1, 1200), repeat(4, 1200)), api.ErrRange},
	} {
		means := stepRun(x.l)
		if means.e != x.e {
			t.Errorf("%s means %v, not %v", letters(x.l[:9]), means.e, x.e)
		}
		checkMeans(t, checkTrim(t, x.l), means)
	}
}
