// Package exact is layer 1: points of the grid, decided without a rest.
package exact

import "graticule/api"

// quotients is how far the numbers of a quotient may be from 0.
const quotients = 1 << 60

// shifts is the greatest power of 2 by which a number is shifted.
const shifts = 20

// Right tells whether all of these points may be.
func Right(l ...api.Point) bool {
	for _, p := range l {
		if p.X < -api.Bound || p.X > api.Bound || p.Y < -api.Bound || p.Y > api.Bound {
			return false
		}
	}
	return true
}

// Less tells whether a is ahead of b: by X, of like X by Y.
func Less(a, b api.Point) bool {
	if a.X != b.X {
		return a.X < b.X
	}
	return a.Y < b.Y
}

// Cross is the doubled area of three points, above 0 if they turn to the left; 0 if one may not be.
func Cross(a, b, c api.Point) int {
	if !Right(a, b, c) {
		return 0
	}
	return (b.X-a.X)*(c.Y-a.Y) - (b.Y-a.Y)*(c.X-a.X)
}

// Turn is the sign of the doubled area.
func Turn(a, b, c api.Point) int {
	area := Cross(a, b, c)
	switch {
	case area > 0:
		return 1
	case area < 0:
		return -1
	}
	return 0
}

// On tells whether p lies on the segment from a to b, its ends too.
func On(a, b, p api.Point) bool {
	if !Right(a, b, p) {
		return false
	}
	if a == b {
		return p == a
	}
	return Cross(a, b, p) == 0 && between(a.X, b.X, p.X) && between(a.Y, b.Y, p.Y)
}

// between tells whether n lies from a to b, whichever of these is less.
func between(a, b, n int) bool {
	return min(a, b) <= n && n <= max(a, b)
}

// InTriangle tells whether p lies within the triangle, or on its border.
func InTriangle(a, b, c, p api.Point) bool {
	if !Right(a, b, c, p) {
		return false
	}
	way := Turn(a, b, c)
	if way == 0 {
		return On(a, b, p) || On(b, c, p) || On(c, a, p)
	}
	inside := func(from, to api.Point) bool { return Turn(from, to, p)*way >= 0 }
	return inside(a, b) && inside(b, c) && inside(c, a)
}

// Box is the least X and Y of these points, and the greatest ones.
func Box(l ...api.Point) (api.Point, api.Point, bool) {
	if len(l) == 0 || !Right(l...) {
		return api.Point{}, api.Point{}, false
	}
	low, high := l[0], l[0]
	for _, p := range l {
		low = api.Point{X: min(low.X, p.X), Y: min(low.Y, p.Y)}
		high = api.Point{X: max(high.X, p.X), Y: max(high.Y, p.Y)}
	}
	return low, high, true
}

// dividable tells whether n may be divided by d.
func dividable(n, d int) bool {
	return d >= 1 && d <= quotients && n >= -quotients && n <= quotients
}

// floor divides by a d above 0; Go's division goes towards 0, so what is below 0 must go down once more.
func floor(n, d int) int {
	whole := n / d
	if n%d < 0 {
		goto down
	}
	return whole
down:
	return whole - 1
}

// Floor is n / d, rounded downwards.
func Floor(n, d int) (int, bool) {
	if !dividable(n, d) {
		return 0, false
	}
	return floor(n, d), true
}

// Round is n / d, rounded to the nearest number; of two as near to the greater one.
func Round(n, d int) (int, bool) {
	if !dividable(n, d) {
		return 0, false
	}
	// Half a divisor more, rounded downwards; all doubled, so that the half is whole. At most 3 * 2^60: no wrap.
	return floor(2*n+d, 2*d), true
}

// Shift is v / 2^s, rounded.
func Shift(v, s int) (int, bool) {
	if s < 0 || s > shifts || v < -api.Bound || v > api.Bound {
		return 0, false
	}
	return Round(v, 1<<s)
}
