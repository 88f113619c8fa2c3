package acc

import "math"

// Sum is near of the exact sum of all.
func Sum(l ...float64) float64 {
	a := New()
	for _, x := range l {
		a.Add(x)
	}
	return a.Value()
}

// Dot is near of the exact sum of the products; false, if the lengths are not the same.
func Dot(x, y []float64) (float64, bool) {
	if len(x) != len(y) {
		return 0, false
	}
	a := New()
	for i := range x {
		a.Prod(x[i], y[i])
	}
	return a.Value(), true
}

// Left adds step by step, from the left.
func Left(l []float64) float64 {
	s := 0.0
	for _, x := range l {
		s += x
	}
	return s
}

// Pair adds the halves of the list, each added so itself.
func Pair(l []float64) float64 {
	switch len(l) {
	case 0:
		return 0
	case 1:
		return l[0]
	}
	half := len(l) / 2
	return Pair(l[:half]) + Pair(l[half:])
}

// Kahan adds step by step, from the left, and beside it what the steps lost.
func Kahan(l []float64) float64 {
	s, c := 0.0, 0.0
	for _, x := range l {
		t := s + x
		if math.Abs(s) >= math.Abs(x) {
			c += (s - t) + x
		} else {
			c += (x - t) + s
		}
		s = t
	}
	return s + c
}
