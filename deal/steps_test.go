package deal_test

import (
	"math"
	"slices"
	"strings"

	"tenor/api"
	"tenor/date"
	"tenor/flow"
	"tenor/text"
)

var (
	inf   = math.Inf(1)
	nan   = math.NaN()
	minus = math.Copysign(0, -1)
)

const (
	greatest = math.MaxFloat64
	least    = 0x1p-1074
)

// scatter is splitmix64: the same numbers in every run.
func scatter(state *uint64) uint64 {
	*state += 0x9e3779b97f4a7c15
	z := *state
	z = (z ^ z>>30) * 0xbf58476d1ce4e5b9
	z = (z ^ z>>27) * 0x94d049bb133111eb
	return z ^ z>>31
}

// below is a whole number from 0 to below n.
func below(state *uint64, n int) int {
	return int(scatter(state) % uint64(n))
}

func isNumber(x float64) bool { return x-x == 0 }

func between(n, least, greatest int) bool { return n >= least && n <= greatest }

// tree, verdict, printed, list and deepness are the answers of the five calls.
type tree struct {
	t  []api.Term
	e  api.Errno
	at int
}

type verdict struct {
	e  api.Errno
	at int
}

type printed struct {
	s string
	e api.Errno
}

type list struct {
	l []api.Flow
	e api.Errno
}

type deepness struct {
	n int
	e api.Errno
}

func read(t []api.Term, e api.Errno, at int) tree { return tree{t, e, at} }

func refused(e api.Errno, at int) tree { return tree{nil, e, at} }

func checked(e api.Errno, at int) verdict { return verdict{e, at} }

func wrote(s string, e api.Errno) printed { return printed{s, e} }

func told(l []api.Flow, e api.Errno) list { return list{l, e} }

func flows(l ...api.Flow) list { return list{l, api.OK} }

func wrong(e api.Errno) list { return list{nil, e} }

func deep(n int, e api.Errno) deepness { return deepness{n, e} }

func (a tree) is(b tree) bool {
	return a.e == b.e && a.at == b.at && sameTerms(a.t, b.t)
}

func (a list) is(b list) bool {
	return a.e == b.e && sameFlows(a.l, b.l)
}

// sameTerms and sameFlows hold two lists against each other to the bit.
func sameTerms(a, b []api.Term) bool {
	return slices.EqualFunc(a, b, func(x, y api.Term) bool {
		bits := math.Float64bits(x.X) == math.Float64bits(y.X) && math.Float64bits(x.Y) == math.Float64bits(y.Y)
		x.X, x.Y, y.X, y.Y = 0, 0, 0, 0
		return bits && x == y
	})
}

func sameFlows(a, b []api.Flow) bool {
	return slices.EqualFunc(a, b, func(x, y api.Flow) bool {
		return math.Float64bits(x.Amount) == math.Float64bits(y.Amount) && x.Day == y.Day && x.Cur == y.Cur
	})
}

// f is a flow.
func f(day int, x float64, cur int) api.Flow { return api.Flow{Day: day, Amount: x, Cur: cur} }

// stepNames is 17.1's third column: the term of the named fields alone, and whether these may be.
func stepNames(t api.Term) (api.Term, bool) {
	isDay := func(n int) bool { return between(n, 0, 109572) }
	switch n := (api.Term{Kind: t.Kind}); t.Kind {
	case 1:
		return n, true
	case 2:
		n.X, n.Cur, n.Day = t.X, t.Cur, t.Day
		return n, isNumber(t.X) && between(t.Cur, 1, 8) && isDay(t.Day)
	case 3:
		n.X, n.Y, n.Count, n.Day, n.To, n.N, n.Cur = t.X, t.Y, t.Count, t.Day, t.To, t.N, t.Cur
		return n, isNumber(t.X) && isNumber(t.Y) && between(t.Count, 1, 5) && isDay(t.Day) && isDay(t.To) && t.Day < t.To && between(t.N, 1, 1200) && between(t.Cur, 1, 8)
	case 4:
		n.A = t.A
		return n, true
	case 5:
		n.A, n.B = t.A, t.B
		return n, true
	case 6:
		n.A, n.X = t.A, t.X
		return n, isNumber(t.X)
	case 7:
		n.A, n.Day, n.To = t.A, t.Day, t.To
		return n, isDay(t.Day) && isDay(t.To)
	case 8:
		n.A, n.N, n.Months = t.A, t.N, t.Months
		return n, between(t.N, 1, 4096) && between(t.Months, 1, 1200)
	}
	return api.Term{}, false
}

// stepCheck is 17.2, by how many terms belong to each one, and stepDepth the tree's depth, of one that may be.
func stepCheck(t []api.Term) verdict {
	if len(t) > 1024 {
		return verdict{api.ErrLong, 0}
	}
	if len(t) == 0 {
		return verdict{api.ErrTree, 0}
	}
	sizes := make([]int, len(t))
	for i, x := range t {
		n, ok := stepNames(x)
		if !ok || !sameTerms([]api.Term{n}, []api.Term{x}) {
			return verdict{api.ErrTree, i}
		}
		sizes[i] = 1
		if x.Kind == 5 {
			if x.B != i-1 || x.B < 0 || x.A != i-1-sizes[i-1] || x.A < 0 {
				return verdict{api.ErrTree, i}
			}
			sizes[i] += sizes[x.A] + sizes[x.B]
		} else if x.Kind > 3 {
			if x.A != i-1 || x.A < 0 {
				return verdict{api.ErrTree, i}
			}
			sizes[i] += sizes[x.A]
		}
	}
	root := len(t) - 1
	if sizes[root] != len(t) {
		return verdict{api.ErrTree, root}
	}
	if stepDepth(t, root) > 64 {
		return verdict{api.ErrDeep, root}
	}
	return verdict{api.OK, 0}
}

func stepDepth(t []api.Term, i int) int {
	switch t[i].Kind {
	case 1, 2, 3:
		return 1
	case 5:
		return 1 + max(stepDepth(t, t[i].A), stepDepth(t, t[i].B))
	}
	return 1 + stepDepth(t, t[i].A)
}

// patterns is 17.1's second column; the term's kind is its place here.
func patterns() []string {
	return []string{"", "zero", "pay X CUR DAY", "fixed X Y COUNT DAY BEHIND STEP CUR", "give T", "both T T", "scale X T", "window DAY TO T", "repeat TIMES MONTHS T"}
}

// stepWord sets what the word says at that place of a pattern, and tells whether it may stand there.
func stepWord(t *api.Term, hole, word string) bool {
	x, e := text.Parse(word)
	if e != api.OK {
		x, e = text.Unhex(word)
	}
	day, noDay := date.Parse(word)
	n, isInt := text.Int(word)
	switch hole {
	case "X":
		t.X = x
		return e == api.OK
	case "Y":
		t.Y = x
		return e == api.OK
	case "COUNT":
		t.Count = slices.Index([]string{"", "act360", "act365", "actact", "bond", "euro"}, word)
		return t.Count > 0
	case "DAY":
		t.Day = day
		return noDay == api.OK
	case "TO":
		t.To = day
		return noDay == api.OK
	case "BEHIND":
		t.To = day
		return noDay == api.OK && day > t.Day
	case "CUR":
		t.Cur = n
		return isInt && n >= 1 && n <= 8
	case "STEP":
		t.N = n
		return isInt && n >= 1 && n <= 1200
	case "TIMES":
		t.N = n
		return isInt && n >= 1 && n <= 4096
	}
	t.Months = n
	return isInt && n >= 1 && n <= 1200
}

// begun is a term whose words are not all read: what is to come of its pattern, and the places of its parts.
type begun struct {
	t     api.Term
	holes []string
	parts []int
}

// stepParse is 17.3, by a list of the terms that are begun, in which each word fills the next hole.
func stepParse(s string) tree {
	if len(s) > 65536 {
		return refused(api.ErrLong, 0)
	}
	var done []api.Term
	count := 0
	stack := []*begun{{holes: []string{"T"}}}
	for at := 0; at < len(s); {
		end := len(s)
		if i := strings.IndexByte(s[at:], ' '); i >= 0 {
			end = at + i
		}
		if end > at {
			if len(stack[len(stack)-1].holes) == 0 {
				return refused(api.ErrWord, at)
			}
			e := stepNext(&stack, s[at:end], &count)
			if e != api.OK {
				return refused(e, at)
			}
			done = stepClose(&stack, done)
		}
		at = end + 1
	}
	if len(stack[len(stack)-1].holes) > 0 {
		return refused(api.ErrWord, len(s))
	}
	return tree{done, api.OK, 0}
}

// stepNext fills the next hole.
func stepNext(stack *[]*begun, word string, count *int) api.Errno {
	top := (*stack)[len(*stack)-1]
	hole := top.holes[0]
	if hole != "T" {
		top.holes = top.holes[1:]
		if !stepWord(&top.t, hole, word) {
			return api.ErrWord
		}
		return api.OK
	}
	for kind, p := range patterns() {
		words := strings.Fields(p)
		if kind == 0 || words[0] != word {
			continue
		}
		*count++
		if *count > 1024 {
			return api.ErrLong
		}
		if len(*stack) > 64 { // the first one is no term
			return api.ErrDeep
		}
		top.holes = top.holes[1:]
		*stack = append(*stack, &begun{t: api.Term{Kind: kind}, holes: words[1:]})
		return api.OK
	}
	return api.ErrWord
}

// stepClose takes those off the list that have no hole left.
func stepClose(stack *[]*begun, done []api.Term) []api.Term {
	for len(*stack) > 1 && len((*stack)[len(*stack)-1].holes) == 0 {
		top := (*stack)[len(*stack)-1]
		*stack = (*stack)[:len(*stack)-1]
		if len(top.parts) > 0 {
			top.t.A = top.parts[0]
		}
		if len(top.parts) > 1 {
			top.t.B = top.parts[1]
		}
		under := (*stack)[len(*stack)-1]
		under.parts = append(under.parts, len(done))
		done = append(done, top.t)
	}
	return done
}

// stepPrint is 17.3's Print of a tree that may be, by its patterns.
func stepPrint(t []api.Term, i int) string {
	x, parts := t[i], []int{t[i].A, t[i].B}
	var words []string
	for _, hole := range strings.Fields(patterns()[x.Kind]) {
		words = append(words, stepHole(t, x, hole, &parts))
	}
	return strings.Join(words, " ")
}

func stepHole(t []api.Term, x api.Term, hole string, parts *[]int) string {
	switch hole {
	case "X":
		return hex(x.X)
	case "Y":
		return hex(x.Y)
	case "COUNT":
		return []string{"", "act360", "act365", "actact", "bond", "euro"}[x.Count]
	case "DAY":
		return dayText(x.Day)
	case "TO", "BEHIND":
		return dayText(x.To)
	case "CUR":
		return decimal(x.Cur)
	case "STEP", "TIMES":
		return decimal(x.N)
	case "MONTHS":
		return decimal(x.Months)
	case "T":
		place := (*parts)[0]
		*parts = (*parts)[1:]
		return stepPrint(t, place)
	}
	return hole
}

func hex(x float64) string {
	s, _ := text.Hex(x)
	return s
}

func dayText(n int) string {
	s, _ := date.Print(n)
	return s
}

// decimal is a whole number from 0 on.
func decimal(n int) string {
	s, _ := text.Print(float64(n), 0)
	return s
}

// stepFlows is 17.5 of a tree that may be: each term tells its own list; alive is how many flows there are in all lists that are not part of another.
func stepFlows(t []api.Term) list {
	alive := 0
	l, e := stepMean(t, len(t)-1, &alive)
	if e != api.OK {
		return wrong(e)
	}
	return told(l, e)
}

func stepMean(t []api.Term, i int, alive *int) ([]api.Flow, api.Errno) {
	x := t[i]
	if x.Kind <= 3 {
		return stepLeaf(x, alive)
	}
	l, e := stepMean(t, x.A, alive)
	if e != api.OK {
		return nil, e
	}
	switch x.Kind {
	case 4:
		for k := range l {
			l[k].Amount = math.Float64frombits(math.Float64bits(l[k].Amount) ^ 1<<63)
		}
	case 5:
		m, e := stepMean(t, x.B, alive)
		return append(l, m...), e
	case 6:
		for k := range l {
			l[k].Amount *= x.X
			if !isNumber(l[k].Amount) {
				return nil, api.ErrValue
			}
		}
	case 7:
		var in []api.Flow
		for _, y := range l {
			if y.Day < x.Day || y.Day >= x.To {
				*alive--
			} else {
				in = append(in, y)
			}
		}
		return in, api.OK
	case 8:
		return stepRepeat(x, l, alive)
	}
	return l, api.OK
}

func stepLeaf(x api.Term, alive *int) ([]api.Flow, api.Errno) {
	var l []api.Flow
	switch x.Kind {
	case 2:
		l = []api.Flow{{Day: x.Day, Amount: x.X, Cur: x.Cur}}
	case 3:
		var e api.Errno
		g := api.Leg{Kind: api.LFixed, Count: x.Count, Cur: x.Cur, Notional: x.X, Rate: x.Y}
		g.Spec = api.Spec{Start: x.Day, End: x.To, N: x.N, Unit: api.UMonth, Stub: api.SShortFirst}
		if l, e = flow.Fixed(g); e != api.OK {
			return nil, e
		}
	}
	if *alive += len(l); *alive > 4096 {
		return nil, api.ErrMany
	}
	return l, api.OK
}

func stepRepeat(x api.Term, l []api.Flow, alive *int) ([]api.Flow, api.Errno) {
	all := slices.Clone(l)
	for k := 1; k < x.N; k++ {
		for _, y := range l {
			if *alive == 4096 {
				return nil, api.ErrMany
			}
			n, e := date.Months(y.Day, k*x.Months, false)
			if e != api.OK {
				return nil, api.ErrRange
			}
			y.Day = n
			all = append(all, y)
			*alive++
		}
	}
	return all, api.OK
}

// someNumber gives numbers: everyday ones, noughts, great ones, small ones.
func someNumber(state *uint64, wild bool) float64 {
	sign := float64(1 - 2*below(state, 2))
	if wild {
		switch below(state, 6) {
		case 0:
			return math.Copysign(0, sign)
		case 1:
			return sign * math.Ldexp(1+float64(scatter(state)>>11)*0x1p-53, below(state, 2046)-1023)
		case 2:
			return sign * float64(1+below(state, 1000)) * least
		case 3:
			return sign * math.Ldexp(1+float64(scatter(state)>>11)*0x1p-53, 500+below(state, 524))
		}
	}
	return sign * float64(below(state, 1000)) / 100
}

// someDay gives days: within few years, at the ends, or any.
func someDay(state *uint64, wild bool) int {
	if wild {
		switch below(state, 6) {
		case 0:
			return below(state, 3)
		case 1:
			return 109572 - below(state, 3)
		case 2:
			return below(state, 109573)
		}
	}
	return 45000 + below(state, 3000)
}

// someTerm is a term of that kind, its places still 0.
func someTerm(state *uint64, kind int, wild bool) api.Term {
	t := api.Term{Kind: kind}
	switch kind {
	case 2:
		t.X, t.Cur, t.Day = someNumber(state, wild), 1+below(state, 8), someDay(state, wild)
	case 3:
		t.X, t.Y, t.Count, t.Cur = someNumber(state, wild), someNumber(state, wild), 1+below(state, 5), 1+below(state, 8)
		t.N = []int{1, 3, 6, 12, 1200, 1 + below(state, 1200)}[below(state, 6)]
		t.Day = min(someDay(state, wild), 109571)
		t.To = t.Day + 1 + below(state, min(109572-t.Day, 900))
		if wild {
			t.To = t.Day + 1 + below(state, 109572-t.Day)
		}
	case 6:
		t.X = someNumber(state, wild)
	case 7:
		t.Day, t.To = someDay(state, wild), someDay(state, wild)
		if below(state, 4) > 0 {
			t.Day, t.To = min(t.Day, t.To), max(t.Day, t.To)
		}
	case 8:
		t.N, t.Months = 1+below(state, 4), 1+below(state, 14)
		if wild {
			t.N, t.Months = 1+below(state, 4096>>below(state, 13)), 1+below(state, 1200>>below(state, 11))
		}
	}
	return t
}

// grow puts a tree of at most that depth behind the list, and tells its root's place.
func grow(state *uint64, l *[]api.Term, depth, wild int) int {
	kind := 1 + below(state, 8)
	if kind < 4 && depth > 1 && below(state, 3) > 0 {
		kind = 4 + below(state, 5)
	}
	if depth == 1 {
		kind = 1 + below(state, 3)
	}
	if kind == 1 && below(state, 3) > 0 {
		kind = 2
	}
	t := someTerm(state, kind, below(state, 10) < wild)
	if kind > 3 {
		t.A = grow(state, l, depth-1, wild)
	}
	if kind == 5 {
		t.B = grow(state, l, depth-1, wild)
	}
	*l = append(*l, t)
	return len(*l) - 1
}

// someTree is a tree that may be; wild, of ten, says how many of its terms are strange.
func someTree(state *uint64, depth, wild int) []api.Term {
	var l []api.Term
	grow(state, &l, depth, wild)
	if len(l) > 1024 {
		return []api.Term{{Kind: api.TZero}}
	}
	return l
}
