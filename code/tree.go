package code

import (
	"tenor/api"
)

// visit is a term that is to be gone through.
type visit struct {
	place int
	op    bool // its part was gone through: its op is left
}

// compiled is the code of a tree that may be.
func compiled(t []api.Term) []api.Op {
	var l []api.Op
	stack := []visit{{place: len(t) - 1}}
	for len(stack) > 0 {
		v := stack[len(stack)-1]
		stack = stack[:len(stack)-1]
		switch term := t[v.place]; {
		case term.Kind == api.TZero:
		case term.Kind == api.TBoth:
			stack = append(stack, visit{place: term.B}, visit{place: term.A})
		case v.op || !kindFor(term).takes:
			l = append(l, opOf(term))
		default:
			l = append(l, api.Op{Kind: api.OMark})
			stack = append(stack, visit{place: v.place, op: true}, visit{place: term.A})
		}
	}
	return l
}

// none stands for the place of a term where there is none.
const none = -1

// builder puts a tree together out of code.
type builder struct {
	terms  []api.Term
	pieces []int // the places of what stands ahead of the first mark, and behind each that was not taken away
}

// rebuilt is a tree whose code is l, of code that may be.
func rebuilt(l []api.Op) []api.Term {
	b := &builder{pieces: []int{none}}
	for _, o := range l {
		if o.Kind == api.OMark {
			b.pieces = append(b.pieces, none)
			continue
		}
		t := termOf(o)
		if kindOf(o).takes {
			t.A = b.whole()
		}
		b.beside(b.add(t))
	}
	b.whole()
	return b.terms
}

// add sets a term behind the others, and tells its place.
func (b *builder) add(t api.Term) int {
	b.terms = append(b.terms, t)
	return len(b.terms) - 1
}

// beside puts the term at that place together with what stands behind the last mark.
func (b *builder) beside(place int) {
	last := &b.pieces[len(b.pieces)-1]
	if *last != none {
		place = b.add(api.Term{Kind: api.TBoth, A: *last, B: place})
	}
	*last = place
}

// whole takes the last mark away, and tells the place of all that stood behind it.
func (b *builder) whole() int {
	place := b.pieces[len(b.pieces)-1]
	b.pieces = b.pieces[:len(b.pieces)-1]
	if place == none {
		place = b.add(api.Term{Kind: api.TZero})
	}
	return place
}
