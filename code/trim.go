package code

import (
	"slices"

	"tenor/api"
)

// kept is an op of code that is trimmed.
type kept struct {
	op   api.Op
	back int // of one that takes a mark away: how many places ahead of it the mark stands
}

// trimmer puts trimmed code together, op by op. Only an op that takes a mark away makes something that can go, and what goes with it opens nothing ahead of it: so one way through the code does all that can be done, the first from the left first.
type trimmer struct {
	code  []kept
	marks []int // the places of the marks that were not taken away
}

// trimmed is the code, of code that may be, without what can go.
func trimmed(l []api.Op) []api.Op {
	c := &trimmer{}
	for _, o := range l {
		switch {
		case kindOf(o).takes:
			c.take(o)
		case o.Kind == api.OMark:
			c.marks = append(c.marks, len(c.code))
			c.add(o, 0)
		default:
			c.add(o, 0)
		}
	}
	var short []api.Op
	for _, k := range c.code {
		short = append(short, k.op)
	}
	return short
}

func (c *trimmer) add(o api.Op, back int) {
	c.code = append(c.code, kept{o, back})
}

// drop leaves out the op at that place. How far a mark stands ahead stays true, for what goes never lies between the two.
func (c *trimmer) drop(place int) {
	c.code = slices.Delete(c.code, place, place+1)
}

// take sets an op that takes the last mark away, unless both can go.
func (c *trimmer) take(o api.Op) {
	mark := c.marks[len(c.marks)-1]
	c.marks = c.marks[:len(c.marks)-1]
	last := len(c.code) - 1
	switch {
	case mark == last || turnsNothing(o):
		c.drop(mark)
	case o.Kind == api.OGive && c.givesAllBehind(mark):
		c.drop(last)
		c.drop(mark + 1)
		c.drop(mark)
	default:
		c.add(o, len(c.code)-mark)
	}
}

// turnsNothing tells whether the op leaves all flows as they are.
func turnsNothing(o api.Op) bool {
	return o.Kind == api.OScale && o.X == 1 || o.Kind == api.ORepeat && o.N == 1
}

// givesAllBehind tells whether the last op is an OGive whose own mark stands right behind that one.
func (c *trimmer) givesAllBehind(mark int) bool {
	last := len(c.code) - 1
	k := c.code[last]
	return k.op.Kind == api.OGive && last-k.back == mark+1
}
