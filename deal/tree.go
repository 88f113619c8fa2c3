package deal

import (
	"tenor/api"
)

// loose is a term that no other one has named yet: its place, and how deep it is.
type loose struct {
	place, depth int
}

// measure is the depth of a tree; else what is wrong with it, and with which of its terms.
func measure(t []api.Term) (depth int, e api.Errno, at int) {
	if len(t) > api.MaxTree {
		return 0, api.ErrLong, 0
	}
	all := kinds()
	var stack []loose
	for i, term := range t {
		k, ok := all.ofNumber(term.Kind)
		if !ok || !k.fits(term) {
			return 0, api.ErrTree, i
		}
		if stack, ok = joined(stack, i, k.partsOf(term)); !ok {
			return 0, api.ErrTree, i
		}
	}
	root := len(t) - 1
	switch {
	case len(stack) == 0:
		return 0, api.ErrTree, 0
	case len(stack) > 1:
		return 0, api.ErrTree, root
	case stack[0].depth > api.MaxDepth:
		return 0, api.ErrDeep, root
	}
	return stack[0].depth, api.OK, 0
}

// joined is the stack with the term at that place in the stead of its parts, which must be the last ones there, in their order.
func joined(stack []loose, place int, parts []int) ([]loose, bool) {
	left := len(stack) - len(parts)
	if left < 0 {
		return nil, false
	}
	deepest := 0
	for i, part := range parts {
		if stack[left+i].place != part {
			return nil, false
		}
		deepest = max(deepest, stack[left+i].depth)
	}
	return append(stack[:left], loose{place, deepest + 1}), true
}
