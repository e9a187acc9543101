package polyclip

import (
	"slices"
	"testing"

	"graticule/api"
	"graticule/exact"
	"graticule/ring"
	"graticule/rows"
	"graticule/sample"
	"graticule/seg"
)

func p(x, y int) api.Point { return api.Point{X: x, Y: y} }

func box(a, b, c, d int) rows.Box { return rows.Box{Low: p(a, b), High: p(c, d)} }

func square() []api.Point { return []api.Point{p(0, 0), p(8, 0), p(8, 8), p(0, 8)} }

const far = api.Bound + 1

// TestHalf: P21.1.
func TestHalf(t *testing.T) {
	tri := []api.Point{p(0, 0), p(8, 4), p(0, 9)}
	for _, x := range []struct {
		l     []api.Point
		c     int
		up, y bool
		want  []api.Point
	}{
		{square(), 2, true, false, []api.Point{p(2, 0), p(8, 0), p(8, 8), p(2, 8)}}, {square(), 2, false, false, []api.Point{p(0, 0), p(2, 0), p(2, 8), p(0, 8)}},
		{square(), 2, true, true, []api.Point{p(8, 2), p(8, 8), p(0, 8), p(0, 2)}}, {square(), 2, false, true, []api.Point{p(0, 0), p(8, 0), p(8, 2), p(0, 2)}},
		{square(), 8, true, false, []api.Point{p(8, 0), p(8, 8)}}, {square(), 9, true, false, nil}, {square(), 0, true, false, square()}, {square(), -5, false, true, nil},
		{tri, 5, true, false, []api.Point{p(5, 3), p(8, 4), p(5, 6)}}, {nil, 5, true, false, nil}, {[]api.Point{p(1, 1)}, 1, true, true, []api.Point{p(1, 1)}},
		{[]api.Point{p(1, 1), p(1, 1), p(5, 1)}, 1, true, false, []api.Point{p(1, 1), p(1, 1), p(5, 1)}},
		{[]api.Point{p(0, 0), p(far, 0), p(0, 9)}, 5, true, false, []api.Point{p(far, 0)}}, {[]api.Point{p(0, 0), p(far, 0), p(0, 9)}, 5, false, false, []api.Point{p(0, 0), p(0, 9)}},
	} {
		if got := Half(x.l, x.c, x.up, x.y); !slices.Equal(got, x.want) {
			t.Error(x, got)
		}
	}
}

// TestRing: P21.1.
func TestRing(t *testing.T) {
	for _, x := range []struct {
		name string
		l    []api.Point
		b    rows.Box
		want []api.Point
	}{
		{"the example", square(), box(2, 2, 4, 9), []api.Point{p(2, 2), p(4, 2), p(4, 8), p(2, 8)}}, {"all of it", square(), box(-1, -1, 9, 9), square()}, {"around", square(), box(2, 2, 3, 3), []api.Point{p(2, 2), p(3, 2), p(3, 3), p(2, 3)}},
		{"beyond", square(), box(9, 0, 12, 9), nil}, {"at a side", square(), box(8, 0, 12, 9), nil}, {"at a corner", square(), box(8, 8, 12, 12), nil}, {"a flat box", square(), box(2, 0, 2, 9), nil},
		{"no points", nil, box(0, 0, 9, 9), nil}, {"far", []api.Point{p(0, 0), p(far, 0), p(0, 9)}, box(0, 0, 9, 9), nil}, {"no box", square(), box(3, 0, 2, 9), nil}, {"a far box", square(), box(3, 0, far, 9), nil},
		{"to the right", ring.Turned(square()), box(2, 2, 4, 9), []api.Point{p(2, 2), p(2, 8), p(4, 8), p(4, 2)}},
		{"like points", []api.Point{p(0, 0), p(0, 0), p(8, 0), p(8, 8), p(8, 8), p(0, 8), p(0, 0)}, box(-1, -1, 9, 9), square()}, {"no area", []api.Point{p(0, 0), p(8, 8), p(4, 4)}, box(0, 0, 9, 9), nil},
	} {
		if got := Ring(x.l, x.b); !ring.Alike(got, x.want) {
			t.Error(x.name, got)
		}
	}
	l := square()
	got := Ring(l, box(-1, -1, 9, 9))
	got[0] = p(7, 7)
	if !slices.Equal(l, square()) {
		t.Error("shared")
	}
}

// TestRings: P21.1.
func TestRings(t *testing.T) {
	got, places := Rings([][]api.Point{nil, square(), {p(1, 1)}, ring.Moved(square(), p(50, 0)), ring.Turned(square())}, box(0, 0, 4, 4))
	if len(got) != 2 || !slices.Equal(places, []int{1, 4}) || ring.Area(got[0]) != 32 || ring.Area(got[1]) != -32 {
		t.Error(got, places)
	}
	if got, places = Rings(nil, box(0, 0, 4, 4)); len(got) != 0 || len(places) != 0 {
		t.Error("none")
	}
}

// TestWhole: P21.2.
func TestWhole(t *testing.T) {
	for _, x := range []struct {
		l     []api.Point
		b     rows.Box
		whole bool
	}{
		{square(), box(0, 0, 8, 8), true}, {square(), box(-5, -5, 9, 9), true}, {square(), box(20, 20, 30, 30), true}, {square(), box(2, -1, 30, 30), false}, {square(), box(-1, 2, 30, 30), false}, {square(), box(-1, -1, 2, 30), false}, {square(), box(-1, -1, 30, 2), false},
		{nil, box(0, 0, 8, 8), false}, {[]api.Point{p(3, 3)}, box(0, 0, 8, 8), true}, {[]api.Point{p(3, far)}, box(0, 0, 8, 8), false}, {square(), box(9, 0, 8, 8), false}, {square(), box(0, 0, far, 8), false},
		{[]api.Point{p(0, 0), p(2, 0), p(8, 0), p(8, 8), p(2, 8), p(0, 8)}, box(2, -1, 30, 30), true},
	} {
		if Whole(x.l, x.b) != x.whole {
			t.Error(x)
		}
	}
}

// cutAll is a ring with the cuts by the lines of a box's sides.
func cutAll(l []api.Point, b rows.Box) []api.Point {
	var out []api.Point
	for i, q := range ring.Thin(l) {
		n := len(ring.Thin(l))
		out = append(out, q)
		out = append(out, seg.Cuts(q, ring.Thin(l)[(i+1)%n], []int{b.Low.X, b.High.X}, []int{b.Low.Y, b.High.Y})...)
	}
	return out
}

// TestFollows: P21.3.
func TestFollows(t *testing.T) {
	r := sample.New(28)
	simple, empty := 0, 0
	for range 20000 {
		var l []api.Point
		for range 3 + r.Next(6) {
			l = append(l, p(r.Next(14), r.Next(14)))
		}
		b, _ := rows.Of(p(r.Next(14), r.Next(14)), p(r.Next(14), r.Next(14)))
		l = cutAll(l, b)
		if !Whole(l, b) {
			t.Fatal("not whole", l, b)
		}
		clipped := Ring(l, b)
		for _, q := range clipped {
			if !rows.Meet(b, rows.Box{Low: q, High: q}) {
				t.Fatal("beyond", l, b, clipped)
			}
		}
		if low, high, _ := exact.Box(l...); rows.Meet(b, rows.Box{Low: low, High: low}) && rows.Meet(b, rows.Box{Low: high, High: high}) && len(clipped) > 0 && !slices.Equal(clipped, ring.Thin(l)) {
			t.Fatal("not as it was", l, b)
		}
		if len(clipped) == 0 && !ring.Simple(l) {
			continue
		}
		if ring.Simple(l) {
			simple++
		}
		if len(clipped) == 0 {
			empty++
		}
		for x := b.Low.X + 1; x < b.High.X; x++ {
			for y := b.Low.Y + 1; y < b.High.Y; y++ {
				want, ok := ring.Winding(l, p(x, y))
				if got, is := ring.Winding(clipped, p(x, y)); ok && (got != want || !is) {
					t.Fatal("round", l, b, clipped, x, y)
				}
			}
		}
	}
	if simple < 300 || empty < 50 {
		t.Error("too few", simple, empty)
	}
}
