package deal

import (
	"tenor/api"
)

// reader goes through the words of a text and puts terms together out of them.
type reader struct {
	text     string
	kinds    table
	at, next int        // where the last word begins, and what is left behind it
	begun    int        // how many terms were begun
	terms    []api.Term // those of them that are whole
}

// wrongWord is what the reader panics with, so that it need not find its way back out of the terms that it is in.
type wrongWord struct {
	e  api.Errno
	at int
}

// wrongWordOf is what a panic was about. One that is not the reader's own is a fault of the program, and goes on.
func wrongWordOf(p any) wrongWord {
	w, ok := p.(wrongWord)
	if !ok {
		panic(p)
	}
	return w
}

// refuse gives up at the last word.
func (r *reader) refuse(e api.Errno) {
	panic(wrongWord{e, r.at})
}

// word goes on to the next word; behind the last one that is none, at the text's end.
func (r *reader) word() string {
	r.at = r.next
	for r.at < len(r.text) && r.text[r.at] == ' ' {
		r.at++
	}
	r.next = r.at
	for r.next < len(r.text) && r.text[r.next] != ' ' {
		r.next++
	}
	return r.text[r.at:r.next]
}

// term reads a term that lies so deep, its parts too, and tells its place.
func (r *reader) term(depth int) int {
	k := r.kind(depth)
	r.begun++
	t := api.Term{Kind: k.number}
	for _, f := range k.fields {
		if !f.read(&t, r.word()) || !f.fits(t) {
			r.refuse(api.ErrWord)
		}
	}
	if k.parts > 0 {
		t.A = r.term(depth + 1)
	}
	if k.parts > 1 {
		t.B = r.term(depth + 1)
	}
	r.terms = append(r.terms, t)
	return len(r.terms) - 1
}

// kind reads the word that begins a term that lies so deep.
func (r *reader) kind(depth int) kind {
	k, ok := r.kinds.ofWord(r.word())
	switch {
	case !ok:
		r.refuse(api.ErrWord)
	case r.begun == api.MaxTree:
		r.refuse(api.ErrLong)
	case depth > api.MaxDepth:
		r.refuse(api.ErrDeep)
	}
	return k
}
