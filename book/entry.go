package book

import (
	"maps"
	"slices"

	"tenor/api"
	"tenor/deal"
)

// entry is a deal: its text as it is printed, and the flows that it means.
type entry struct {
	text  string
	flows []api.Flow
}

// Add puts the deal of that text into the book; else it tells what is wrong, and where in the text.
func (b *Book) Add(id int, text string) (api.Errno, int) {
	if id < 1 || id > api.MaxID {
		return api.ErrArg, 0
	}
	d, e, at := read(text)
	if e != api.OK {
		return e, at
	}
	switch {
	case b.has(id):
		return api.ErrSame, 0
	case len(b.deals) >= api.MaxDeals:
		return api.ErrMany, 0
	}
	b.deals[id] = d
	return api.OK, 0
}

// Drop takes a deal out of the book.
func (b *Book) Drop(id int) api.Errno {
	if !b.has(id) {
		return api.ErrDeal
	}
	delete(b.deals, id)
	return api.OK
}

// List is the numbers of the deals, rising. The deals are gone through by it alone, for a map has no order.
func (b *Book) List() []int {
	return slices.Sorted(maps.Keys(b.deals))
}

// Text is the words of a deal.
func (b *Book) Text(id int) (string, api.Errno) {
	d, e := b.entry(id)
	return d.text, e
}

// Flows is the flows of a deal.
func (b *Book) Flows(id int) ([]api.Flow, api.Errno) {
	d, e := b.entry(id)
	return slices.Clone(d.flows), e
}

// has tells whether there is a deal of that number.
func (b *Book) has(id int) bool {
	_, there := b.deals[id]
	return there
}

// entry is the deal of that number.
func (b *Book) entry(id int) (entry, api.Errno) {
	d, there := b.deals[id]
	if !there {
		return entry{}, api.ErrDeal
	}
	return d, api.OK
}

// read is the deal of a text; else what is wrong with it, and where.
func read(text string) (entry, api.Errno, int) {
	t, e, at := deal.Parse(text)
	if e != api.OK {
		return entry{}, e, at
	}
	l, e := deal.Flows(t)
	if e != api.OK {
		return entry{}, e, 0
	}
	// What was read is a tree, so it has a text.
	words, _ := deal.Print(t)
	return entry{words, l}, api.OK, 0
}

// copied is the same deal in memory of its own.
func (d entry) copied() entry {
	d.flows = slices.Clone(d.flows)
	return d
}
