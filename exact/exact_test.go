package exact

import (
	"math"
	"math/big"
	"math/rand"
	"testing"

	"graticule/api"
)

func p(x, y int) api.Point { return api.Point{X: x, Y: y} }

const b = api.Bound

// TestRight: P1.1.
func TestRight(t *testing.T) {
	if !Right() || !Right(p(b, -b), p(-b, b), p(0, 0)) {
		t.Error("points that may be")
	}
	for _, q := range []api.Point{p(b+1, 0), p(-b-1, 0), p(0, b+1), p(0, -b-1), p(math.MinInt, math.MaxInt)} {
		if Right(q) || Right(p(0, 0), q) || Right(q, p(0, 0)) {
			t.Error(q)
		}
	}
}

// TestLess: P1.1, of any points.
func TestLess(t *testing.T) {
	l := []api.Point{p(math.MinInt, math.MaxInt), p(-1, 5), p(0, math.MinInt), p(0, 0), p(0, 1), p(1, -9), p(math.MaxInt, 0)}
	for i := range l {
		for j := range l {
			if Less(l[i], l[j]) != (i < j) {
				t.Error(l[i], l[j])
			}
		}
	}
}

// TestCross: P1.1 and P1.4, the chapter's example, the bounds.
func TestCross(t *testing.T) {
	if Cross(p(0, 0), p(4, 0), p(0, 3)) != 12 {
		t.Error("the example")
	}
	if got := Cross(p(-b, -b), p(b, -b), p(b, b)); got != 4*b*b {
		t.Error("the greatest", got)
	}
	if Cross(p(b+1, 0), p(0, 0), p(0, 1)) != 0 || Cross(p(0, 0), p(9, -b-1), p(0, 1)) != 0 || Cross(p(0, 0), p(0, 1), p(math.MaxInt, 0)) != 0 {
		t.Error("points that may not be")
	}
	if Turn(p(0, 0), p(2, 2), p(4, 4)) != 0 || Turn(p(0, 0), p(1, 0), p(1, 1)) != 1 || Turn(p(0, 0), p(1, 0), p(1, -1)) != -1 || Turn(p(b+1, 0), p(1, 0), p(1, -1)) != 0 {
		t.Error("turn")
	}
	r := rand.New(rand.NewSource(1))
	for range 2000 {
		x, y, z := p(r.Intn(2*b+1)-b, r.Intn(9)), p(r.Intn(9), r.Intn(2*b+1)-b), p(r.Intn(99), r.Intn(99))
		c := Cross(x, y, z)
		if Cross(y, z, x) != c || Cross(z, x, y) != c || Cross(y, x, z) != -c || Cross(x, z, y) != -c || Cross(z, y, x) != -c {
			t.Error(x, y, z)
		}
		if sign := Turn(x, y, z); c > 0 != (sign == 1) || c < 0 != (sign == -1) {
			t.Error("sign", x, y, z)
		}
	}
}

// TestOn: P1.2.
func TestOn(t *testing.T) {
	for _, x := range []struct {
		a, b, p api.Point
		on      bool
	}{
		{p(0, 0), p(4, 2), p(2, 1), true}, {p(0, 0), p(4, 2), p(0, 0), true}, {p(0, 0), p(4, 2), p(4, 2), true},
		{p(4, 2), p(0, 0), p(2, 1), true}, {p(0, 0), p(4, 2), p(6, 3), false}, {p(0, 0), p(4, 2), p(-2, -1), false},
		{p(0, 0), p(4, 2), p(2, 2), false}, {p(1, 1), p(1, 1), p(1, 1), true}, {p(1, 1), p(1, 1), p(1, 2), false},
		{p(3, 0), p(3, 9), p(3, 10), false}, {p(3, 0), p(3, 9), p(3, 8), true},
		{p(b+1, 0), p(b+1, 0), p(b+1, 0), false}, {p(0, 0), p(b+1, 0), p(1, 0), false}, {p(0, 0), p(4, 0), p(b+1, 0), false},
	} {
		if On(x.a, x.b, x.p) != x.on {
			t.Error(x)
		}
	}
}

// TestInTriangle: P1.2 and P1.4, whatever order the points are told in.
func TestInTriangle(t *testing.T) {
	for _, x := range []struct {
		a, b, c, p api.Point
		in         bool
	}{
		{p(0, 0), p(4, 0), p(0, 4), p(1, 1), true}, {p(0, 0), p(4, 0), p(0, 4), p(2, 2), true}, {p(0, 0), p(4, 0), p(0, 4), p(0, 4), true},
		{p(0, 0), p(4, 0), p(0, 4), p(3, 2), false}, {p(0, 0), p(4, 0), p(0, 4), p(-1, 0), false}, {p(0, 0), p(4, 0), p(0, 4), p(5, 0), false},
		{p(0, 0), p(2, 0), p(5, 0), p(4, 0), true}, {p(0, 0), p(2, 0), p(5, 0), p(6, 0), false}, {p(0, 0), p(2, 0), p(5, 0), p(2, 1), false},
		{p(1, 1), p(1, 1), p(1, 1), p(1, 1), true}, {p(1, 1), p(1, 1), p(1, 1), p(1, 2), false}, {p(1, 1), p(3, 3), p(1, 1), p(2, 2), true},
		{p(0, 0), p(4, 0), p(0, b+1), p(1, 1), false}, {p(0, 0), p(4, 0), p(0, 4), p(b+1, 1), false},
	} {
		for _, l := range [][3]api.Point{{x.a, x.b, x.c}, {x.b, x.c, x.a}, {x.c, x.a, x.b}, {x.c, x.b, x.a}, {x.b, x.a, x.c}, {x.a, x.c, x.b}} {
			if InTriangle(l[0], l[1], l[2], x.p) != x.in {
				t.Error(l, x.p)
			}
		}
	}
}

// TestBox: P1.2.
func TestBox(t *testing.T) {
	low, high, ok := Box(p(3, 1), p(1, 2), p(2, 9))
	if low != p(1, 1) || high != p(3, 9) || !ok {
		t.Error(low, high, ok)
	}
	low, high, ok = Box(p(-b, b))
	if low != p(-b, b) || high != low || !ok {
		t.Error(low, high, ok)
	}
	for _, l := range [][]api.Point{nil, {}, {p(1, 1), p(b+1, 0)}, {p(0, -b-1)}} {
		if low, high, ok = Box(l...); ok || low != p(0, 0) || high != p(0, 0) {
			t.Error(l, low, high, ok)
		}
	}
}

// exactFloor divides by numbers without a bound.
func exactFloor(n, d int64, half bool) int64 {
	x, y := big.NewInt(n), big.NewInt(d)
	if half {
		x.Add(x.Lsh(x, 1), y)
		y.Lsh(y, 1)
	}
	q, _ := new(big.Int).DivMod(x, y, new(big.Int))
	return q.Int64()
}

// TestQuotients: P1.3, held against numbers without a bound.
func TestQuotients(t *testing.T) {
	const far = 1 << 60
	r := rand.New(rand.NewSource(2))
	ns := []int{0, 1, -1, 2, -2, 3, -3, 7, -7, far, -far, far - 1, 1 - far}
	ds := []int{1, 2, 3, 4, 5, 7, far, far - 1, far / 2}
	for range 200 {
		ns = append(ns, r.Intn(2*far)-far, r.Intn(99)-50)
		ds = append(ds, 1+r.Intn(far), 1+r.Intn(9))
	}
	for _, n := range ns {
		for _, d := range ds {
			f, ok := Floor(n, d)
			g, is := Round(n, d)
			if !ok || !is || int64(f) != exactFloor(int64(n), int64(d), false) || int64(g) != exactFloor(int64(n), int64(d), true) {
				t.Fatal(n, d, f, g, ok, is)
			}
		}
	}
	for _, x := range [][2]int{{1, 0}, {1, -1}, {1, far + 1}, {far + 1, 1}, {-far - 1, 1}, {math.MinInt, math.MinInt}, {math.MaxInt, math.MaxInt}} {
		f, ok := Floor(x[0], x[1])
		g, is := Round(x[0], x[1])
		if ok || is || f != 0 || g != 0 {
			t.Error(x, f, g)
		}
	}
	for n, want := range map[int]int{-1: 0, 1: 1, -3: -1} {
		if got, ok := Round(n, 2); got != want || !ok {
			t.Error("the example", n, got)
		}
	}
}

// TestShift: P1.3.
func TestShift(t *testing.T) {
	for _, x := range []struct{ v, s, w int }{{7, 2, 2}, {6, 2, 2}, {5, 2, 1}, {-6, 2, -1}, {-7, 2, -2}, {9, 0, 9}, {65536, 4, 4096}, {b, 20, 16}, {-b, 20, -16}, {1 << 19, 20, 1}, {-1 << 19, 20, 0}} {
		if w, ok := Shift(x.v, x.s); w != x.w || !ok {
			t.Error(x, w)
		}
	}
	for _, x := range [][2]int{{1, 21}, {1, -1}, {b + 1, 0}, {-b - 1, 3}, {math.MaxInt, math.MaxInt}, {0, math.MinInt}} {
		if w, ok := Shift(x[0], x[1]); ok || w != 0 {
			t.Error(x, w)
		}
	}
}
