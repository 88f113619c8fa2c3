package fx

import (
	"tenor/api"
	"tenor/ieee"
)

// A step is a pair that is gone along, to one of its currencies.
type step struct {
	to   int
	x    float64
	back bool // from the pair's B to its A
}

// visited tells of each currency whether a way has been there.
type visited [api.MaxCur + 1]bool

// add puts the pair in, to be gone from both ends.
func (t *Table) add(p api.Pair) {
	t.steps[p.A] = append(t.steps[p.A], step{to: p.B, x: p.X})
	t.steps[p.B] = append(t.steps[p.B], step{to: p.A, x: p.X, back: true})
}

// way looks for a way from a to b that goes nowhere it has been, and tells what the rates along it come to.
func (t *Table) way(a, b int, been visited) (ratio, bool) {
	if a == b {
		return ratio{over: whole{1}, under: whole{1}}, true
	}
	been[a] = true
	for _, s := range t.steps[a] {
		if been[s.to] {
			continue
		}
		if rest, found := t.way(s.to, b, been); found {
			return rest.with(s), true
		}
	}
	return ratio{}, false
}

// A ratio is over / under * 2^power, exactly.
type ratio struct {
	over, under whole
	power       int
}

// with is the ratio with one more step to it.
func (r ratio) with(s step) ratio {
	m, e, _ := ieee.Split(s.x)
	if s.back {
		r.under = r.under.times(uint64(m))
		r.power -= e
	} else {
		r.over = r.over.times(uint64(m))
		r.power += e
	}
	return r
}

// near is near of the ratio.
func (r ratio) near() float64 {
	// Both are brought to one length: so their quotient lies between a half and 2, and power makes up for it.
	more := r.over.length() - r.under.length()
	over, under := r.over.shifted(max(0, -more)), r.under.shifted(max(0, more))
	q, exact := quotient(over, under)
	if !exact {
		// The lowest bit lies beyond what a number keeps: it may stand for all that lies behind it, and Join rounds but once.
		q |= 1
	}
	return ieee.Join(q, r.power+more-behindPoint)
}
