package interp

import (
	"tenor/acc"
	"tenor/api"
	"tenor/fn"
)

func flat(t api.Table, k, x int) float64 {
	return t.Y[k]
}

func linear(t api.Table, k, x int) float64 {
	left, right := t.X[k+1]-x, x-t.X[k]
	return weighed(left, right, t.Y[k], t.Y[k+1])
}

// cubic is the polynomial of the four points. Each weight is below 2^53 (api.LastDay bounds the places), so that it is a float exactly.
func cubic(t api.Table, k, x int) float64 {
	left, right := t.X[k+1]-x, x-t.X[k]
	weights := [...]int{left * left * left, 3 * left * left * right, 3 * left * right * right, right * right * right}
	sum, whole := acc.New(), left+right
	for i, c := range points(t, k) {
		sum.Prod(float64(weights[i]), c)
	}
	v, _ := sum.Over(whole * whole * whole)
	return v
}

// logarithmic is held between the two values, for Exp of Ln may lie a little off.
func logarithmic(t api.Table, k, x int) float64 {
	left, right := t.X[k+1]-x, x-t.X[k]
	v := fn.Exp(weighed(left, right, fn.Ln(t.Y[k]), fn.Ln(t.Y[k+1])))
	return held(v, t.Y[k], t.Y[k+1])
}

// weighed is the mean of a and b by their weights, rounded once.
func weighed(left, right int, a, b float64) float64 {
	sum := acc.New()
	sum.Prod(float64(left), a)
	sum.Prod(float64(right), b)
	v, _ := sum.Over(left + right)
	return v
}

// slope is that of the node k: at an end as to the only neighbour, else the harmonic mean of both sides, so that a cubic turns at no place but a node.
func slope(t api.Table, k int) float64 {
	last := len(t.X) - 1
	switch {
	case last == 0:
		return 0
	case k == 0:
		return rise(t, 0)
	case k == last:
		return rise(t, last-1)
	}
	a, b := rise(t, k-1), rise(t, k)
	if a == 0 || b == 0 || (a < 0) != (b < 0) {
		return 0
	}
	return 2 / (1/a + 1/b)
}

// rise is by how much the values rise, for each place, from the node k to the next.
func rise(t api.Table, k int) float64 {
	return (t.Y[k+1] - t.Y[k]) / float64(t.X[k+1]-t.X[k])
}

// points is the four points of the cubic behind the node k. They run one way from node to node, and so the cubic does.
func points(t api.Table, k int) [4]float64 {
	first, last := t.Y[k], t.Y[k+1]
	h := float64(t.X[k+1] - t.X[k])
	// The products are rounded by conversions: nothing may be fused.
	second := held(first+float64(slope(t, k)*h)/3, first, last)
	third := held(last-float64(slope(t, k+1)*h)/3, second, last)
	return [4]float64{first, second, third, last}
}

// held is v, or the one of a and b that it lies beyond.
func held(v, a, b float64) float64 {
	lo, hi := a, b
	if b < a {
		lo, hi = b, a
	}
	if a == b {
		hi = a // of two noughts of unlike signs the first is told
	}
	if v < lo {
		return lo
	}
	if v > hi {
		return hi
	}
	return v
}
