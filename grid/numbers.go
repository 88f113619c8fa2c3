package grid

import (
	"tenor/acc"
	"tenor/api"
	"tenor/ieee"
)

// maxNumbers is how many numbers may be handed in.
const maxNumbers = 1 << 20

// Quantile is the least of the numbers at or below which p parts of q of them lie.
func Quantile(x []float64, p, q int) (float64, api.Errno) {
	if e := check(x); e != api.OK {
		return 0, e
	}
	if q < 1 || q > api.MaxParts || p < 0 || p > q {
		return 0, api.ErrArg
	}
	k := max(1, (len(x)*p+q-1)/q)
	return ieee.Sort(x)[k-1], api.OK
}

// Worst is the place of the least number, of equal ones the first.
func Worst(x []float64) (int, api.Errno) {
	if e := check(x); e != api.OK {
		return 0, e
	}
	worst := 0
	for i, v := range x {
		if ieee.Less(v, x[worst]) {
			worst = i
		}
	}
	return worst, api.OK
}

// Mean is the exact sum of the numbers, divided by how many they are, rounded once.
func Mean(x []float64) (float64, api.Errno) {
	if e := check(x); e != api.OK {
		return 0, e
	}
	sum := acc.New()
	for _, v := range x {
		sum.Add(v)
	}
	mean, _ := sum.Over(len(x))
	return mean, api.OK
}

// Count is how many of the numbers are below the first edge, from each edge on ahead of the next one, and from the last one on.
func Count(x, edges []float64) ([]int, api.Errno) {
	if e := checkCount(x, edges); e != api.OK {
		return nil, e
	}
	counts := make([]int, len(edges)+1)
numbers:
	for _, v := range x {
		// The place of v is from low to high: behind all edges that are not above it.
		low, high := 0, len(edges)
		for {
			mid := (low + high) / 2
			switch {
			case mid < len(edges) && v >= edges[mid]:
				low = mid + 1
			case mid > 0 && v < edges[mid-1]:
				high = mid - 1
			default:
				counts[mid]++
				continue numbers
			}
		}
	}
	return counts, api.OK
}

// check tells what is wrong with the numbers of which something is to be said.
func check(x []float64) api.Errno {
	if len(x) == 0 || len(x) > maxNumbers {
		return api.ErrNodes
	}
	return checkNumbers(x)
}

func checkNumbers(x []float64) api.Errno {
	for _, v := range x {
		if !isNumber(v) {
			return api.ErrValue
		}
	}
	return api.OK
}

// checkCount tells what is wrong with the numbers and the edges of a count.
func checkCount(x, edges []float64) api.Errno {
	if len(edges) > api.MaxEdges {
		return api.ErrLong
	}
	if len(edges) == 0 || len(x) > maxNumbers {
		return api.ErrNodes
	}
	for _, l := range [][]float64{edges, x} {
		if e := checkNumbers(l); e != api.OK {
			return e
		}
	}
	for i := range edges[1:] {
		if !(edges[i+1] > edges[i]) {
			return api.ErrArg
		}
	}
	return api.OK
}
