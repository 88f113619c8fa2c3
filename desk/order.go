package desk

import (
	"slices"
	"strings"

	"tenor/api"
	"tenor/date"
	"tenor/ieee"
	"tenor/text"
)

// order is what a line asks for, as far as its words are read.
type order struct {
	words     []string // those that are not read yet
	wrong     bool     // whether one of those that were read is none of its form
	id, cur   int
	kind, day int
	x         float64
	days      []int
	factors   []float64
	quotes    []api.Quote
	deal      string
}

// shape is what the words behind a first word are: each by a function that reads it, or several, into an order.
type shape []func(*order)

// read is the order that the words mean; false, if they are not of the shape.
func read(s shape, words []string) (order, bool) {
	o := order{words: words}
	for _, part := range s {
		part(&o)
	}
	return o, !o.wrong && len(o.words) == 0
}

func (o *order) readID() { o.id = o.whole() }

func (o *order) readCur() { o.cur = o.whole() }

func (o *order) readDay() { o.day = o.date() }

func (o *order) readNumber() { o.x = o.number() }

func (o *order) readKind() {
	o.kind = api.IFlat + o.oneOf("flat", "linear", "cubic", "log")
}

func (o *order) readNodes() {
	o.some(func() {
		o.days = append(o.days, o.date())
		o.factors = append(o.factors, o.number())
	})
}

func (o *order) readQuotes() {
	o.some(func() { o.quotes = append(o.quotes, o.quote()) })
}

// readDeal takes all words that are left. What they mean is left to the book.
func (o *order) readDeal() {
	o.need(len(o.words) > 0)
	o.deal, o.words = strings.Join(o.words, " "), nil
}

// some reads one thing or more, up to the last word. A thing has one word at least, so this ends.
func (o *order) some(thing func()) {
	thing()
	for len(o.words) > 0 {
		thing()
	}
}

// quote reads the words of a quote.
func (o *order) quote() api.Quote {
	q := api.Quote{Kind: api.QDeposit + o.oneOf("dep", "swap")}
	q.Count = api.D360 + o.oneOf("act360", "act365", "actact", "bond", "euro")
	q.End = o.date()
	if q.Kind == api.QSwap {
		q.N = o.whole()
	}
	q.Rate = ieee.Single(o.number())
	return q
}

// next takes the next word. Behind the last one it is empty, which is none of any form.
func (o *order) next() string {
	if len(o.words) == 0 {
		return ""
	}
	word := o.words[0]
	o.words = o.words[1:]
	return word
}

// need keeps in mind that a word was wrong.
func (o *order) need(ok bool) {
	o.wrong = o.wrong || !ok
}

func (o *order) whole() int {
	n, ok := text.Int(o.next())
	o.need(ok)
	return n
}

func (o *order) date() int {
	n, e := date.Parse(o.next())
	o.need(e == api.OK)
	return n
}

// number reads a number in either of its forms.
func (o *order) number() float64 {
	word := o.next()
	x, e := text.Parse(word)
	if e != api.OK {
		x, e = text.Unhex(word)
	}
	o.need(e == api.OK)
	return x
}

// oneOf is the place of the next word among these, from 0 on.
func (o *order) oneOf(l ...string) int {
	i := slices.Index(l, o.next())
	o.need(i >= 0)
	return i
}
