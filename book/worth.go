package book

import (
	"tenor/acc"
	"tenor/api"
	"tenor/ieee"
	"tenor/price"
	"tenor/risk"
)

// One is what a deal's flows in the currency are worth.
func (b *Book) One(id, cur int) (float64, api.Errno) {
	d, e := b.entry(id)
	if e != api.OK {
		return 0, e
	}
	c, e := b.asked(cur)
	if e != api.OK {
		return 0, e
	}
	return price.Present(d.flows, cur, c)
}

// Value is what all deals' flows in the currency are worth, summed exactly and rounded once.
func (b *Book) Value(cur int) (float64, api.Errno) {
	c, e := b.asked(cur)
	if e != api.OK {
		return 0, e
	}
	sum := price.Nothing()
	for _, id := range b.List() {
		w, e := price.Of(b.deals[id].flows, cur, c)
		if e != api.OK {
			return 0, e
		}
		sum = sum.Plus(w)
	}
	return number(sum.Value())
}

// Total is what all deals are worth, each currency taken by its exchange rate.
func (b *Book) Total() (float64, api.Errno) {
	var rates, values []float64
	for i, paid := range b.paid() {
		if !paid {
			continue
		}
		v, e := b.Value(i + 1)
		if e != api.OK {
			return 0, e
		}
		rates, values = append(rates, b.markets[i].rate), append(values, v)
	}
	// Both lists have one length, so there is a sum.
	x, _ := acc.Dot(rates, values)
	return number(x)
}

// Report is, deal by deal, how many its flows are, and what those in the currency are worth.
func (b *Book) Report(cur int) ([]api.Line, api.Errno) {
	if _, e := b.asked(cur); e != api.OK {
		return nil, e
	}
	var l []api.Line
	for _, id := range b.List() {
		v, e := single(b.One(id, cur))
		if e != api.OK {
			return nil, e
		}
		l = append(l, api.Line{ID: id, Flows: len(b.deals[id].flows), Value: v})
	}
	return l, api.OK
}

// Ladder is, node by node, by how much all deals' flows in the currency are worth more, if its curve is bumped there by h.
func (b *Book) Ladder(cur int, h float64) ([]float64, api.Errno) {
	c, e := b.asked(cur)
	if e != api.OK {
		return nil, e
	}
	var l []api.Flow
	for _, id := range b.List() {
		l = append(l, b.deals[id].flows...)
	}
	return risk.Ladder(l, cur, c, h)
}

// paid is, of each currency, whether some deal has a flow in it.
func (b *Book) paid() [api.MaxCur]bool {
	var l [api.MaxCur]bool
	for _, id := range b.List() {
		for _, f := range b.deals[id].flows {
			l[f.Cur-1] = true
		}
	}
	return l
}

// single is x as binary32, if that is a number.
func single(x float64, e api.Errno) (float32, api.Errno) {
	if e != api.OK {
		return 0, e
	}
	s := ieee.Single(x)
	if !isNumber(ieee.Double(s)) {
		return 0, api.ErrValue
	}
	return s, api.OK
}

// number is x, if it is a number.
func number(x float64) (float64, api.Errno) {
	if !isNumber(x) {
		return 0, api.ErrValue
	}
	return x, api.OK
}
