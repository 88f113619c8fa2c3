package book_test

import (
	"fmt"
	"math"
	"math/big"
	"slices"
	"testing"

	"tenor/api"
	"tenor/book"
	"tenor/curve"
	"tenor/date"
	"tenor/deal"
	"tenor/risk"
	"tenor/text"
)

var (
	inf   = math.Inf(1)
	nan   = math.NaN()
	minus = math.Copysign(0, -1)
)

const (
	greatest = math.MaxFloat64
	least    = 0x1p-1074
	from     = 45656 // 2025-01-01
	to       = 47482 // 2030-01-01
)

// scatter is splitmix64: the same numbers in every run.
func scatter(state *uint64) uint64 {
	*state += 0x9e3779b97f4a7c15
	z := *state
	z = (z ^ z>>30) * 0xbf58476d1ce4e5b9
	z = (z ^ z>>27) * 0x94d049bb133111eb
	return z ^ z>>31
}

// below is a whole number from 0 to below n.
func below(state *uint64, n int) int {
	return int(scatter(state) % uint64(n))
}

// unit is a number from 0 to below 1.
func unit(state *uint64) float64 {
	return float64(scatter(state)>>11) * 0x1p-53
}

// strange is ints that are neither a currency nor a deal's number.
func strange() []int {
	return []int{math.MinInt, -1 << 32, -8, -1, 0, 1000001, 1<<32 + 1, math.MaxInt}
}

// noCurs is ints that are no currencies.
func noCurs() []int { return append(strange(), 9, 256+1) }

// f is a flow.
func f(day int, x float64, cur int) api.Flow { return api.Flow{Day: day, Amount: x, Cur: cur} }

// halving is the chapter's curve.
func halving() api.Curve {
	return api.Curve{Base: from, Kind: api.ILinear, Days: []int{to}, Factors: []float64{0.5}}
}

// even is a curve on which every day from the first on is worth the same.
func even() api.Curve {
	return api.Curve{Base: 0, Kind: api.IFlat, Days: []int{api.LastDay}, Factors: []float64{1}}
}

// pays is the text of a deal that pays these amounts in that currency on the last day of the chapter's curve.
func pays(cur int, l ...float64) string {
	s := "zero"
	for _, x := range l {
		s = fmt.Sprintf("both pay %s %d 2030-01-01 %s", hex(x), cur, s)
	}
	return s
}

// hex is a number's text.
func hex(x float64) string {
	s, _ := text.Hex(x)
	return s
}

// months is the text of a deal that pays 1 in that currency so many times, each month from day 0 on, at most 3,600 times.
func months(n, cur int) string { return fmt.Sprintf("repeat %d 1 pay 1 %d 1900-01-01", n, cur) }

// made is a book with these curves and deals, which all may be.
func made(t *testing.T, curves map[int]api.Curve, deals map[int]string) *book.Book {
	t.Helper()
	b := book.New()
	for cur, c := range curves {
		if e := b.Curve(cur, c); e != api.OK {
			t.Fatalf("Curve(%d, %v) is %v", cur, c, e)
		}
	}
	for id, s := range deals {
		add(t, b, id, s)
	}
	return b
}

// add puts a deal that may be into a book.
func add(t *testing.T, b *book.Book, id int, s string) {
	t.Helper()
	if e, at := b.Add(id, s); e != api.OK || at != 0 {
		t.Fatalf("Add(%d, %s) is %v, %d", id, s, e, at)
	}
}

// teller is what a book can be asked.
type teller interface {
	List() []int
	Text(id int) (string, api.Errno)
	Flows(id int) ([]api.Flow, api.Errno)
	One(id, cur int) (float64, api.Errno)
	Value(cur int) (float64, api.Errno)
	Total() (float64, api.Errno)
	Report(cur int) ([]api.Line, api.Errno)
	Ladder(cur int, h float64) ([]float64, api.Errno)
	Factor(cur, n int) (float64, api.Errno)
	Get(cur int) (api.Curve, bool, float64, api.Errno)
}

// keeper is a teller that can be changed.
type keeper interface {
	teller
	Curve(cur int, c api.Curve) api.Errno
	Clear(cur int) api.Errno
	Rate(cur int, x float64) api.Errno
	Add(id int, text string) (api.Errno, int)
	Drop(id int) api.Errno
}

// bits is a float told to the bit.
func bits(x float64) string { return fmt.Sprintf("%x/%x", x, math.Float64bits(x)) }

func allBits(l []float64) string {
	s := fmt.Sprint(len(l))
	for _, x := range l {
		s += " " + bits(x)
	}
	return s
}

// tells is all that a book answers to a list of questions, the same for all books, a line each.
func tells(b teller) []string {
	var l []string
	say := func(form string, more ...any) { l = append(l, fmt.Sprintf(form, more...)) }
	ids := b.List()
	say("List %d", ids)
	for _, id := range append(ids, 0, 1, 7, 1000001) {
		text, e := b.Text(id)
		say("Text(%d) %q %v", id, text, e)
		flows, e := b.Flows(id)
		say("Flows(%d) %d %v", id, len(flows), e)
		for _, x := range flows {
			say("%d %d %s", x.Day, x.Cur, bits(x.Amount))
		}
		for cur := range 10 {
			x, e := b.One(id, cur)
			say("One(%d, %d) %s %v", id, cur, bits(x), e)
		}
	}
	for cur := range 10 {
		l = append(l, tellsOf(b, cur)...)
	}
	x, e := b.Total()
	say("Total %s %v", bits(x), e)
	return l
}

// tellsOf is that of one currency.
func tellsOf(b teller, cur int) []string {
	var l []string
	say := func(form string, more ...any) { l = append(l, fmt.Sprintf(form, more...)) }
	c, has, x, e := b.Get(cur)
	say("Get(%d) %d %d %d %s %t %s %v", cur, c.Base, c.Kind, c.Days, allBits(c.Factors), has, bits(x), e)
	x, e = b.Value(cur)
	say("Value(%d) %s %v", cur, bits(x), e)
	lines, e := b.Report(cur)
	say("Report(%d) %d %v", cur, len(lines), e)
	for _, x := range lines {
		say("%d %d %x", x.ID, x.Flows, math.Float32bits(x.Value))
	}
	for _, h := range []float64{0, 0.01, -3, nan} {
		rungs, e := b.Ladder(cur, h)
		say("Ladder(%d, %x) %s %v", cur, h, allBits(rungs), e)
	}
	for _, n := range []int{math.MinInt, -1, 0, from - 1, from, from + 300, to, 60000, api.LastDay, api.LastDay + 1} {
		x, e := b.Factor(cur, n)
		say("Factor(%d, %d) %s %v", cur, n, bits(x), e)
	}
	return l
}

// checkSame holds all that two tell against each other.
func checkSame(t *testing.T, got, want teller) {
	t.Helper()
	g, w := tells(got), tells(want)
	for i := range min(len(g), len(w)) {
		if g[i] != w[i] {
			t.Fatalf("a book tells %s, not %s", g[i], w[i])
		}
	}
	if len(g) != len(w) {
		t.Fatalf("a book tells %d lines, not %d", len(g), len(w))
	}
}

// shelf is a book by another reading of the chapter: texts and curves in the order in which they came, each answer reckoned anew, sums in rationals.
type shelf struct {
	slips  []slip
	quoted []quoted
}

// slip is a deal; quoted a currency's curve, where it has one, or else its exchange rate.
type slip struct {
	id   int
	text string
}

type quoted struct {
	cur int
	c   *api.Curve
	x   float64
}

func isCur(n int) bool { return n >= 1 && n <= 8 }

func isNumber(x float64) bool { return x-x == 0 }

// rational is the exact value of a number, and near the number nearest to an exact value.
func rational(x float64) *big.Rat { return new(big.Rat).SetFloat64(x) }

func near(r *big.Rat) (float64, api.Errno) {
	x, _ := r.Float64()
	if !isNumber(x) {
		return 0, api.ErrValue
	}
	return x, api.OK
}

// Curve, Clear and Rate are 20.1.
func (s *shelf) Curve(cur int, c api.Curve) api.Errno {
	if !isCur(cur) {
		return api.ErrCur
	}
	if e := curve.Check(c); e != api.OK {
		return e
	}
	s.Clear(cur)
	s.quoted = append(s.quoted, quoted{cur: cur, c: &c})
	return api.OK
}

func (s *shelf) Clear(cur int) api.Errno {
	if !isCur(cur) {
		return api.ErrCur
	}
	if _, e := s.asked(cur); e != api.OK {
		return e
	}
	s.quoted = slices.DeleteFunc(s.quoted, func(q quoted) bool { return q.cur == cur && q.c != nil })
	return api.OK
}

func (s *shelf) Rate(cur int, x float64) api.Errno {
	if !isCur(cur) {
		return api.ErrCur
	}
	if !isNumber(x) || !(x > 0) {
		return api.ErrValue
	}
	s.quoted = append(s.quoted, quoted{cur: cur, x: x})
	return api.OK
}

// Add and Drop are 20.2.
func (s *shelf) Add(id int, text string) (api.Errno, int) {
	if id < 1 || id > 1000000 {
		return api.ErrArg, 0
	}
	tree, e, at := deal.Parse(text)
	if e != api.OK {
		return e, at
	}
	if _, e := deal.Flows(tree); e != api.OK {
		return e, 0
	}
	if _, e := s.Text(id); e == api.OK {
		return api.ErrSame, 0
	}
	if len(s.slips) == 256 {
		return api.ErrMany, 0
	}
	s.slips = append(s.slips, slip{id, text})
	return api.OK, 0
}

func (s *shelf) Drop(id int) api.Errno {
	if _, e := s.Text(id); e != api.OK {
		return e
	}
	s.slips = slices.DeleteFunc(s.slips, func(x slip) bool { return x.id == id })
	return api.OK
}

func (s *shelf) List() []int {
	var l []int
	for _, x := range s.slips {
		l = append(l, x.id)
	}
	slices.Sort(l)
	return l
}

// tree is that of a deal.
func (s *shelf) tree(id int) ([]api.Term, api.Errno) {
	for _, x := range s.slips {
		if x.id == id {
			tree, _, _ := deal.Parse(x.text)
			return tree, api.OK
		}
	}
	return nil, api.ErrDeal
}

func (s *shelf) Text(id int) (string, api.Errno) {
	tree, e := s.tree(id)
	if e != api.OK {
		return "", e
	}
	return deal.Print(tree)
}

func (s *shelf) Flows(id int) ([]api.Flow, api.Errno) {
	tree, e := s.tree(id)
	if e != api.OK {
		return nil, e
	}
	return deal.Flows(tree)
}

// asked is 20.3's first sentence.
func (s *shelf) asked(cur int) (api.Curve, api.Errno) {
	if !isCur(cur) {
		return api.Curve{}, api.ErrCur
	}
	for _, q := range s.quoted {
		if q.cur == cur && q.c != nil {
			return *q.c, api.OK
		}
	}
	return api.Curve{}, api.ErrCurve
}

// rate is the exchange rate that was told last.
func (s *shelf) rate(cur int) float64 {
	x := 1.0
	for _, q := range s.quoted {
		if q.cur == cur && q.c == nil {
			x = q.x
		}
	}
	return x
}

// worth is 15.1 in rationals.
func worth(l []api.Flow, cur int, c api.Curve) (*big.Rat, api.Errno) {
	sum := new(big.Rat)
	for _, x := range l {
		if x.Cur == cur && x.Day >= c.Base {
			factor, e := curve.Factor(c, x.Day)
			if e != api.OK {
				return nil, e
			}
			sum.Add(sum, new(big.Rat).Mul(rational(x.Amount), rational(factor)))
		}
	}
	return sum, api.OK
}

// One, Value, Factor and Get are 20.3.
func (s *shelf) One(id, cur int) (float64, api.Errno) {
	l, e := s.Flows(id)
	if e != api.OK {
		return 0, e
	}
	c, e := s.asked(cur)
	if e != api.OK {
		return 0, e
	}
	sum, e := worth(l, cur, c)
	if e != api.OK {
		return 0, e
	}
	return near(sum)
}

// all is the flows of all deals.
func (s *shelf) all() []api.Flow {
	var l []api.Flow
	for _, id := range s.List() {
		more, _ := s.Flows(id)
		l = append(l, more...)
	}
	return l
}

func (s *shelf) Value(cur int) (float64, api.Errno) {
	c, e := s.asked(cur)
	if e != api.OK {
		return 0, e
	}
	sum, e := worth(s.all(), cur, c)
	if e != api.OK {
		return 0, e
	}
	return near(sum)
}

func (s *shelf) Factor(cur, n int) (float64, api.Errno) {
	c, e := s.asked(cur)
	if e != api.OK {
		return 0, e
	}
	return curve.Factor(c, n)
}

func (s *shelf) Get(cur int) (api.Curve, bool, float64, api.Errno) {
	c, e := s.asked(cur)
	if e == api.ErrCur {
		return api.Curve{}, false, 0, e
	}
	return c, e == api.OK, s.rate(cur), api.OK
}

// Total is 20.4.
func (s *shelf) Total() (float64, api.Errno) {
	sum := new(big.Rat)
	for cur := 1; cur <= 8; cur++ {
		if !slices.ContainsFunc(s.all(), func(x api.Flow) bool { return x.Cur == cur }) {
			continue
		}
		x, e := s.Value(cur)
		if e != api.OK {
			return 0, e
		}
		sum.Add(sum, new(big.Rat).Mul(rational(s.rate(cur)), rational(x)))
	}
	return near(sum)
}

// Report and Ladder are 20.5.
func (s *shelf) Report(cur int) ([]api.Line, api.Errno) {
	if _, e := s.asked(cur); e != api.OK {
		return nil, e
	}
	var l []api.Line
	for _, id := range s.List() {
		x, e := s.One(id, cur)
		if e != api.OK {
			return nil, e
		}
		if math.IsInf(float64(float32(x)), 0) {
			return nil, api.ErrValue
		}
		flows, _ := s.Flows(id)
		l = append(l, api.Line{ID: id, Flows: len(flows), Value: float32(x)})
	}
	return l, api.OK
}

func (s *shelf) Ladder(cur int, h float64) ([]float64, api.Errno) {
	c, e := s.asked(cur)
	if e != api.OK {
		return nil, e
	}
	return risk.Ladder(s.all(), cur, c, h)
}

// Join is 20.6.
func (s *shelf) Join(o *shelf) api.Errno {
	for _, x := range o.slips {
		if _, e := s.Text(x.id); e == api.OK {
			return api.ErrSame
		}
	}
	if len(s.slips)+len(o.slips) > 256 {
		return api.ErrMany
	}
	s.slips = append(s.slips, o.slips...)
	return api.OK
}

func (s *shelf) Copy() *shelf { return &shelf{slices.Clone(s.slips), slices.Clone(s.quoted)} }

// someAmount gives numbers' texts: everyday ones, noughts, great ones, small ones.
func someAmount(state *uint64) string {
	sign := float64(1 - 2*below(state, 2))
	switch below(state, 11) {
	case 0:
		return hex(math.Copysign(0, sign))
	case 1:
		return hex(sign * math.Ldexp(1+unit(state), below(state, 2046)-1023))
	case 2:
		return hex(sign * math.Ldexp(1+unit(state), 1023))
	case 3:
		return hex(sign * float64(1+below(state, 1000)) * least)
	case 4:
		return hex(sign * math.Ldexp(1+unit(state), 120+below(state, 12)))
	}
	return fmt.Sprintf("%.2f", sign*float64(below(state, 100000))/100)
}

// someDay gives days' texts: most often of the years of someCurve.
func someDay(state *uint64) string {
	n := 45000 + below(state, 3000)
	if below(state, 30) == 0 {
		n = below(state, 109573)
	}
	s, _ := date.Print(n)
	return s
}

// someText is a deal's text that deal.Parse takes; one of the numbers curs is its currency.
func someText(state *uint64, depth int, curs []int) string {
	cur := curs[below(state, len(curs))]
	n := below(state, 10)
	if depth == 0 {
		n = below(state, 4)
	}
	switch n {
	case 0:
		return "zero"
	case 1, 2:
		return fmt.Sprintf("pay %s %d %s", someAmount(state), cur, someDay(state))
	case 3:
		year := 2024 + below(state, 4)
		count := []string{"act360", "act365", "actact", "bond", "euro"}[below(state, 5)]
		return fmt.Sprintf("fixed %s 0.0%d %s %d-03-31 %d-01-15 %d %d", someAmount(state), below(state, 10), count, year, year+1+below(state, 3), 1+below(state, 12), cur)
	case 4:
		return "give " + someText(state, depth-1, curs)
	case 5:
		return "scale " + someAmount(state) + " " + someText(state, depth-1, curs)
	case 6:
		return fmt.Sprintf("window %s %s %s", someDay(state), someDay(state), someText(state, depth-1, curs))
	case 7:
		return fmt.Sprintf("repeat %d %d %s", 1+below(state, 4), 1+below(state, 9), someText(state, depth-1, curs))
	}
	return fmt.Sprintf("both %s  %s", someText(state, depth-1, curs), someText(state, depth-1, curs))
}

// someCurve is a curve that may be, of few nodes, most often over all of someDay's.
func someCurve(state *uint64) api.Curve {
	c := api.Curve{Base: 44900 + below(state, 400), Kind: 1 + below(state, 4)}
	if below(state, 3) == 0 {
		c.Base += below(state, 2000)
	}
	day := c.Base
	for range below(state, 4) {
		day += 1 + below(state, 800)
		c.Days, c.Factors = append(c.Days, day), append(c.Factors, 0.3+unit(state))
	}
	end := 60000
	switch below(state, 6) {
	case 0:
		end = day + 1 + below(state, 200)
	case 1:
		end = api.LastDay
	}
	c.Days, c.Factors = append(c.Days, end), append(c.Factors, 0.3+unit(state))
	if below(state, 12) == 0 {
		c.Factors[0] = math.Ldexp(1+unit(state), below(state, 2046)-1023)
	}
	return c
}
