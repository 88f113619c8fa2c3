package price

import "tenor/acc"

// Worth is what flows are worth, exactly. Its Value and its Sign are those of the sum that it embeds.
type Worth struct {
	*acc.Acc
}

// Nothing is the worth of no flow.
func Nothing() *Worth {
	return &Worth{acc.New()}
}

// Plus is the worth of both together; of nil that of w alone.
func (w *Worth) Plus(o *Worth) *Worth {
	sum := w.Copy()
	if o != nil {
		sum.Merge(o.Acc)
	}
	return &Worth{sum}
}

// Turned is the worth seen from the other side.
func (w *Worth) Turned() *Worth {
	sum := w.Copy()
	sum.Turn()
	return &Worth{sum}
}

// Same tells whether both are worth the same, exactly; false of nil.
func (w *Worth) Same(o *Worth) bool {
	return o != nil && w.Acc.Same(o.Acc)
}
