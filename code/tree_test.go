package code_test

import (
	"slices"
	"testing"

	"tenor/api"
	"tenor/code"
	"tenor/deal"
)

// checkCompile holds the code of a tree.
func checkCompile(t *testing.T, tree []api.Term, want []api.Op) {
	t.Helper()
	if got := opsOf(code.Compile(tree)); !got.is(ops{want, api.OK}) {
		t.Errorf("Compile(%v) is %v, not %v", tree, got, want)
	}
}

// checkTree holds the tree of code, and that its code is that again.
func checkTree(t *testing.T, l []api.Op, want []api.Term) {
	t.Helper()
	if got := termsOf(code.Back(l)); !got.is(terms{want, api.OK}) {
		t.Errorf("Back(%v) is %v, not %v", l, got, want)
	}
	checkCompile(t, want, l)
}

// checkNoTree holds that code has no tree that may be.
func checkNoTree(t *testing.T, l []api.Op, want api.Errno) {
	t.Helper()
	takeAll(t, l, stepMarks(l))
	if got := termsOf(code.Back(l)); !got.is(terms{nil, want}) {
		t.Errorf("Back of %d ops, %v .., is %d terms, %v, not %v", len(l), l[:min(len(l), 9)], len(got.l), got.e, want)
	}
}

// checkBack holds Back of code that may be against the chapter's words.
func checkBack(t *testing.T, l []api.Op) api.Errno {
	t.Helper()
	tree := stepBack(l)
	e, _ := deal.Check(tree)
	switch e {
	case api.OK:
		checkTree(t, l, tree)
	case api.ErrLong, api.ErrDeep:
		checkNoTree(t, l, e)
	default:
		t.Fatalf("the steps tell %v of %s", tree, letters(l))
	}
	return e
}

// Promise 18.2: what each kind of term becomes.
func TestCompileKinds(t *testing.T) {
	p := "pay 3 1 2030-01-01"
	f := "fixed 100 0.05 euro 2023-03-17 2024-03-16 6 2"
	for s, want := range map[string][]api.Op{
		"zero": nil, p: list(pay(3)), f: list(fixed()), "pay -0 8 1900-01-01": list(api.Op{Kind: api.OPay, X: minus, Cur: 8}),
		"both zero zero": nil, "both " + p + " zero": list(pay(3)), "both zero " + p: list(pay(3)), "both " + p + " " + f: list(pay(3), fixed()), "both " + f + " " + p: list(fixed(), pay(3)),
		"give zero": list(mark(), give()), "give " + p: list(mark(), pay(3), give()), "scale 1 zero": list(mark(), scale(1)), "scale -0 " + f: list(mark(), fixed(), scale(minus)),
		"window 2025-01-01 1900-01-01 zero": list(mark(), window(45656, 0)), "repeat 4096 1200 zero": list(mark(), repeat(4096, 1200)), "repeat 1 7 " + p: list(mark(), pay(3), repeat(1, 7)),
		"give give zero":                                         list(mark(), mark(), give(), give()),
		"both give " + p + " scale 2 " + f:                       list(mark(), pay(3), give(), mark(), fixed(), scale(2)),
		"give both " + p + " scale 2 both " + f + " zero":        list(mark(), pay(3), mark(), fixed(), scale(2), give()),
		"both both zero " + p + " both " + f + " both zero " + p: list(pay(3), fixed(), pay(3)),
		"scale 2 both repeat 3 4 " + p + " give " + f:            list(mark(), mark(), pay(3), repeat(3, 4), mark(), fixed(), give(), scale(2)),
	} {
		checkCompile(t, parsed(s), want)
	}
}

// Promise 18.2: a tree that may not be is told as deal.Check does.
func TestCompileRefuses(t *testing.T) {
	zero := api.Term{Kind: api.TZero}
	deep := []api.Term{zero}
	for i := range 64 {
		deep = append(deep, api.Term{Kind: api.TGive, A: i})
	}
	for _, x := range []struct {
		l []api.Term
		e api.Errno
	}{
		{nil, api.ErrTree}, {[]api.Term{}, api.ErrTree}, {[]api.Term{{}}, api.ErrTree}, {[]api.Term{{Kind: 9}}, api.ErrTree}, {[]api.Term{zero, zero}, api.ErrTree}, {[]api.Term{{Kind: api.TGive}}, api.ErrTree},
		{[]api.Term{{Kind: api.TPay, X: nan, Cur: 1}}, api.ErrTree}, {[]api.Term{{Kind: api.TZero, Y: minus}}, api.ErrTree}, {[]api.Term{zero, {Kind: api.TGive, A: 1}}, api.ErrTree},
		{[]api.Term{zero, zero, {Kind: api.TBoth, A: 1}}, api.ErrTree}, {make([]api.Term, 1025), api.ErrLong}, {slices.Repeat([]api.Term{zero}, 1025), api.ErrLong}, {deep, api.ErrDeep},
	} {
		if got := opsOf(code.Compile(x.l)); !got.is(ops{nil, x.e}) {
			t.Errorf("Compile of %d terms is %v, not %v", len(x.l), got, x.e)
		}
		if e, _ := deal.Check(x.l); e != x.e {
			t.Errorf("Check of %d terms is %v, not %v", len(x.l), e, x.e)
		}
	}
}

// Promise 18.2: the greatest trees.
func TestCompileLimits(t *testing.T) {
	deep := []api.Term{{Kind: api.TPay, X: 3, Cur: 1, Day: 47482}}
	for i := range 63 {
		deep = append(deep, api.Term{Kind: api.TGive, A: i})
	}
	checkCompile(t, deep, join(times(63, mark()), list(pay(3)), times(63, give())))
	comb := deep[:1:1]
	for range 63 {
		comb = append(comb, deep[0], api.Term{Kind: api.TBoth, A: len(comb) - 1, B: len(comb)})
	}
	checkCompile(t, comb, times(64, pay(3)))
	bush := grove(10)
	checkCompile(t, bush, times(512, pay(3)))
	checkCompile(t, append(bush, api.Term{Kind: api.TGive, A: 1022}), join(list(mark()), times(512, pay(3)), list(give())))
}

// grove is pays under boths, all of them so deep.
func grove(depth int) []api.Term {
	if depth == 1 {
		return []api.Term{{Kind: api.TPay, X: 3, Cur: 1, Day: 47482}}
	}
	l := grove(depth - 1)
	n := len(l)
	for _, x := range l {
		if x.Kind == api.TBoth {
			x.A, x.B = x.A+n, x.B+n
		}
		l = append(l, x)
	}
	return append(l, api.Term{Kind: api.TBoth, A: n - 1, B: 2*n - 1})
}

// Promises 18.2 and 18.6: scattered trees: their code, which may be, and what it means.
func TestCompileScattered(t *testing.T) {
	state := uint64(182)
	seen := map[api.Errno]int{}
	for i := range 12000 {
		tree := someTree(&state, 1+below(&state, 9), i%11)
		want := stepCompile(tree, len(tree)-1)
		checkCompile(t, tree, want)
		if got := stepCheck(want); got.e != api.OK {
			t.Fatalf("the code of %v is %v", tree, got)
		}
		means := flowsOf(deal.Flows(tree))
		checkMeans(t, want, means)
		short, e := code.Trim(want)
		if e != api.OK {
			t.Fatalf("Trim of %s is %v", letters(want), e)
		}
		checkMeans(t, short, means)
		seen[means.e]++
		if len(want) > 40 {
			seen[1000]++
		}
	}
	if seen[api.OK] < 5000 || seen[api.ErrMany] < 100 || seen[api.ErrValue] < 100 || seen[api.ErrRange] < 300 || seen[1000] < 100 {
		t.Errorf("only %v", seen)
	}
}

// checkMeans holds what code means.
func checkMeans(t *testing.T, l []api.Op, want flows) {
	t.Helper()
	if got := stepRun(l); !got.is(want) {
		t.Errorf("%s means %d flows, %v, not %d, %v: %v", letters(l), len(got.l), got.e, len(want.l), want.e, l)
	}
}

// Promise 18.4: the trees of short code.
func TestBackShort(t *testing.T) {
	p, f := "pay 3 1 2030-01-01", "fixed 100 0.05 euro 2023-03-17 2024-03-16 6 2"
	for s, want := range map[string]string{
		"": "zero", "p": p, "f": f, "pf": "both " + p + " " + f, "pfp": "both both " + p + " " + f + " " + p, "pppp": "both both both " + p + " " + p + " " + p + " " + p,
		"(g": "give zero", "(s": "scale 1 zero", "(w": "window 2025-12-11 2028-09-06 zero", "(R": "repeat 2 7 zero", "(pg": "give " + p, "(pfg": "give both " + p + " " + f,
		"((gg": "give give zero", "(g(S": "both give zero scale -1 zero", "p(g": "both " + p + " give zero", "(gp": "both give zero " + p, "(g(g(g": "both both give zero give zero give zero",
		"p(fS(pgp": "both both both " + p + " scale -1 " + f + " give " + p + " " + p, "(p(f(gSpR": "repeat 2 7 both both " + p + " scale -1 both " + f + " give zero " + p,
		"((pg(fgg": "give both give " + p + " give " + f,
	} {
		l := spelled(s)
		checkTree(t, l, parsed(want))
		if got := stepBack(l); !(terms{got, 0}).is(terms{parsed(want), 0}) {
			t.Errorf("the steps tell %v of %s", got, s)
		}
	}
}

// bundle is so many pays behind a mark that is taken away: twice as many terms, and one deeper than they are.
func bundle(n int) []api.Op {
	return join(list(mark()), times(n, pay(1)), list(give()))
}

// Promise 18.4: trees about the greatest depth and the greatest size.
func TestBackLimits(t *testing.T) {
	nested := func(marks int, inner []api.Op) []api.Op {
		return join(times(marks, mark()), inner, times(marks, give()))
	}
	big := times(31, bundle(16)...) // 31 * 32 + 30 terms, 47 deep
	long := times(2, big...)
	for _, x := range []struct {
		l    []api.Op
		size int
		e    api.Errno
	}{
		{times(64, pay(1)), 127, api.OK}, {times(65, pay(1)), 129, api.ErrDeep}, {nested(63, nil), 64, api.OK}, {nested(63, list(pay(1))), 64, api.OK},
		{nested(62, list(pay(1), pay(1))), 65, api.OK}, {nested(63, list(pay(1), pay(1))), 66, api.ErrDeep}, {nested(60, times(4, pay(1))), 67, api.OK}, {nested(60, times(5, pay(1))), 69, api.ErrDeep},
		{append(times(63, pay(1)), bundle(1)...), 128, api.OK}, {join(bundle(1), times(62, pay(1))), 126, api.OK}, {join(bundle(1), times(63, pay(1))), 128, api.ErrDeep},
		{big, 1022, api.OK}, {nested(1, big), 1023, api.OK}, {nested(2, big), 1024, api.OK}, {nested(3, big), 1025, api.ErrLong}, {append(slices.Clone(big), pay(1)), 1024, api.OK},
		{nested(1, append(slices.Clone(big), pay(1))), 1025, api.ErrLong}, {append(slices.Clone(big), mark(), give()), 1025, api.ErrLong}, {long, 2045, api.ErrLong},
		{times(512, pay(1)), 1023, api.ErrDeep}, {nested(1, times(512, pay(1))), 1024, api.ErrDeep}, {times(513, pay(1)), 1025, api.ErrLong}, {times(341, mark(), give()), 1022, api.ErrDeep},
		{times(342, mark(), give()), 1025, api.ErrLong},
	} {
		tree := stepBack(x.l)
		if e, _ := deal.Check(tree); e != x.e || len(tree) != x.size {
			t.Fatalf("the steps tell %d terms, %v, not %d, %v", len(tree), e, x.size, x.e)
		}
		if got := termsOf(code.Back(x.l)); got.e != x.e {
			t.Errorf("Back of a tree of %d terms is %v, not %v", x.size, got.e, x.e)
		}
		checkBack(t, x.l)
	}
}

// Promises 18.4 and 18.6: scattered code, there and back, and what its tree means.
func TestBackScattered(t *testing.T) {
	state := uint64(184)
	seen := map[api.Errno]int{}
	for i := range 2000 {
		length := below(&state, 100)
		if i%10 == 0 {
			length += below(&state, 1500)
		}
		l := someCode(&state, length, i%11, 2+i%6)
		e := checkBack(t, l)
		if seen[e]++; e == api.OK {
			checkMeans(t, l, flowsOf(deal.Flows(stepBack(l))))
		}
	}
	if seen[api.OK] < 1000 || seen[api.ErrDeep] < 50 || seen[api.ErrLong] < 50 {
		t.Errorf("only %v", seen)
	}
}
