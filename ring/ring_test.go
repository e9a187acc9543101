package ring

import (
	"math"
	"math/rand"
	"slices"
	"testing"

	"graticule/api"
	"graticule/exact"
	"graticule/seg"
)

func p(x, y int) api.Point { return api.Point{X: x, Y: y} }

const b = api.Bound

func square() []api.Point { return []api.Point{p(0, 0), p(4, 0), p(4, 4), p(0, 4)} }

// eight goes round to the left, and then round to the right.
func eight() []api.Point {
	return []api.Point{p(0, 0), p(4, 0), p(4, 4), p(-4, -4), p(-4, 0), p(0, 0), p(0, 4)}
}

// TestArea: P3.1.
func TestArea(t *testing.T) {
	far := append(square(), p(b+1, 0))
	for _, x := range []struct {
		l    []api.Point
		area int
	}{
		{square(), 32}, {Turned(square()), -32}, {nil, 0}, {square()[:1], 0}, {square()[:2], 0}, {square()[:3], 16},
		{[]api.Point{p(0, 0), p(2, 2), p(4, 4)}, 0}, {far, 0},
		{[]api.Point{p(-b, -b), p(b, -b), p(b, b), p(-b, b)}, 8 * b * b},
		{append(square(), square()...), 64},
	} {
		if got := Area(x.l); got != x.area {
			t.Error(x.l, got)
		}
	}
}

// TestSimple: P3.1.
func TestSimple(t *testing.T) {
	for _, x := range []struct {
		l      []api.Point
		simple bool
	}{
		{square(), true}, {Turned(square()), true}, {nil, false}, {square()[:2], false}, {square()[:3], true},
		{[]api.Point{p(0, 0), p(2, 2), p(4, 4)}, false},
		{[]api.Point{p(0, 0), p(2, 0), p(4, 0), p(4, 4)}, true},
		{[]api.Point{p(0, 0), p(4, 0), p(2, 0), p(4, 4)}, false},
		{[]api.Point{p(0, 0), p(4, 4), p(4, 0), p(0, 4)}, false},
		{[]api.Point{p(0, 0), p(4, 0), p(4, 4), p(2, 0), p(0, 4)}, false},
		{[]api.Point{p(0, 0), p(4, 0), p(4, 4), p(0, 4), p(0, 0)}, false},
		{[]api.Point{p(0, 0), p(4, 0), p(4, 0), p(0, 4)}, false},
		{[]api.Point{p(0, 0), p(4, 0), p(4, 4), p(b+1, 4)}, false},
		{[]api.Point{p(-b, -b), p(b, -b), p(b, b)}, true},
		{eight(), false},
	} {
		if Simple(x.l) != x.simple {
			t.Error(x.l)
		}
	}
}

// slowSimple looks at all pairs of edges.
func slowSimple(l []api.Point) bool {
	n := len(l)
	if n < 3 {
		return false
	}
	for i := range n {
		for j := range i {
			class, err := seg.Class(l[i], l[(i+1)%n], l[j], l[(j+1)%n])
			next := (i+1)%n == j || (j+1)%n == i
			if l[i] == l[j] || err != api.OK || next && class != seg.Touch || !next && class != seg.Apart {
				return false
			}
		}
	}
	return true
}

// slowWinding sums the quarters by which the way to the ring's points turns.
func slowWinding(l []api.Point, q api.Point) int {
	part := func(a api.Point) int {
		x, y := a.X-q.X, a.Y-q.Y
		switch {
		case x > 0 && y >= 0:
			return 0
		case x <= 0 && y > 0:
			return 1
		case x < 0 && y <= 0:
			return 2
		}
		return 3
	}
	sum := 0
	for i, a := range l {
		c := l[(i+1)%len(l)]
		d := (part(c) - part(a) + 4) % 4
		if d == 3 {
			d = -1
		}
		if d == 2 {
			d = 2 * exact.Turn(q, a, c)
		}
		sum += d
	}
	return sum / 4
}

// TestSimpleFollows: P3.1 by all pairs; P3.4.
func TestSimpleFollows(t *testing.T) {
	r := rand.New(rand.NewSource(5))
	met := 0
	for range 20000 {
		var l []api.Point
		for range 3 + r.Intn(5) {
			l = append(l, p(r.Intn(6), r.Intn(6)))
		}
		simple := Simple(l)
		if simple != slowSimple(l) {
			t.Fatal(l)
		}
		if !simple {
			continue
		}
		met++
		most := 1
		if Area(l) < 0 {
			most = -1
		}
		for x := range 6 {
			for y := range 6 {
				if w, ok := Winding(l, p(x, y)); ok && w != 0 && w != most {
					t.Fatal(l, x, y, w)
				}
			}
		}
	}
	if met < 100 {
		t.Error("too few simple rings", met)
	}
}

// TestWinding: P3.2.
func TestWinding(t *testing.T) {
	for _, x := range []struct {
		l     []api.Point
		p     api.Point
		count int
		ok    bool
	}{
		{square(), p(2, 2), 1, true}, {square(), p(4, 2), 0, false}, {square(), p(4, 4), 0, false}, {square(), p(5, 2), 0, true}, {square(), p(-1, 4), 0, true},
		{Turned(square()), p(2, 2), -1, true}, {append(square(), square()...), p(1, 2), 2, true},
		{nil, p(0, 0), 0, true}, {nil, p(b+1, 0), 0, false}, {[]api.Point{p(1, 1)}, p(1, 1), 0, false}, {[]api.Point{p(1, 1)}, p(1, 2), 0, true},
		{[]api.Point{p(1, 1), p(3, 3)}, p(2, 2), 0, false}, {[]api.Point{p(1, 1), p(3, 3)}, p(2, 1), 0, true},
		{square(), p(0, b+1), 0, false}, {append(square(), p(0, -b-1)), p(2, 2), 0, false}, {append(square(), p(0, 0), p(0, -b-1)), p(1, 0), 0, false},
	} {
		if count, ok := Winding(x.l, x.p); count != x.count || ok != x.ok {
			t.Error(x, count, ok)
		}
	}
}

// TestBeside: P3.2.
func TestBeside(t *testing.T) {
	for _, x := range []struct {
		l     []api.Point
		a, b  api.Point
		count int
		ok    bool
	}{
		{square(), p(0, 0), p(4, 0), 1, true}, {square(), p(4, 0), p(0, 0), 0, true}, {square(), p(4, 0), p(4, 4), 1, true},
		{Turned(square()), p(0, 0), p(4, 0), -1, true},
		{square(), p(1, 1), p(1, 1), 0, false}, {square(), p(1, 1), p(b+1, 1), 0, false}, {append(square(), p(0, b+1)), p(1, 1), p(2, 1), 0, false},
		{square(), p(3, 1), p(5, 1), 0, false}, {square(), p(3, 1), p(4, 1), 1, true}, {square(), p(4, 1), p(5, 1), 0, true},
		{square(), p(0, -1), p(0, 1), 0, false}, {square(), p(0, -1), p(0, 2), 0, true}, {square(), p(0, 2), p(0, -1), 1, true},
		{nil, p(0, 0), p(1, 0), 0, true}, {nil, p(0, 0), p(0, 0), 0, false},
		{[]api.Point{p(1, 0)}, p(0, 0), p(2, 0), 0, true}, {append(square(), p(2, 2), p(2, 2), p(0, 4)), p(1, 2), p(3, 2), 0, false},
		{[]api.Point{p(0, 0), p(0, 0), p(4, 0), p(4, 0), p(4, 4), p(0, 4)}, p(-2, 0), p(4, 0), 1, true},
		{[]api.Point{p(-b, -b), p(b, -b), p(b, b), p(-b, b)}, p(-b, -b), p(b, b), 1, true},
		{[]api.Point{p(-b, -b), p(b, -b), p(b, b), p(-b, b)}, p(-b, -b), p(-b, b), 0, true},
	} {
		if count, ok := Beside(x.l, x.a, x.b); count != x.count || ok != x.ok {
			t.Error(x, count, ok)
		}
	}
}

// TestBesideByPoints: P3.2 and P3.4, on rings so great that a point just to the left of a middle is told by a whole number.
func TestBesideByPoints(t *testing.T) {
	r := rand.New(rand.NewSource(6))
	const k = 4096
	for range 20000 {
		var l []api.Point
		for range 1 + r.Intn(7) {
			l = append(l, p(r.Intn(5), r.Intn(5)))
		}
		a, c := p(r.Intn(5), r.Intn(5)), p(r.Intn(5), r.Intn(5))
		if a == c {
			continue
		}
		great := Scaled(l, k)
		near := p((a.X+c.X)*k/2-(c.Y-a.Y), (a.Y+c.Y)*k/2+(c.X-a.X))
		middle := p((a.X+c.X)*k/2, (a.Y+c.Y)*k/2)
		ok := true
		for i, u := range great {
			v := great[(i+1)%len(great)]
			if exact.On(u, v, middle) && (exact.Turn(p(a.X*k, a.Y*k), p(c.X*k, c.Y*k), u) != 0 || exact.Turn(p(a.X*k, a.Y*k), p(c.X*k, c.Y*k), v) != 0) {
				ok = false
			}
		}
		got, is := Beside(l, a, c)
		if is != ok {
			t.Fatal(l, a, c, is)
		}
		if !ok {
			continue
		}
		want, told := Winding(great, near)
		if !told || got != want || want != slowWinding(great, near) {
			t.Fatal(l, a, c, got, want, told)
		}
		if turned, _ := Beside(Turned(l), a, c); turned != -got {
			t.Fatal("turned", l, a, c)
		}
		if begun, _ := Beside(First(l), a, c); begun != got {
			t.Fatal("begun elsewhere", l, a, c)
		}
		by := p(r.Intn(99)-50, r.Intn(99)-50)
		if moved, _ := Beside(Moved(l, by), p(a.X+by.X, a.Y+by.Y), p(c.X+by.X, c.Y+by.Y)); moved != got {
			t.Fatal("moved", l, a, c, by)
		}
		if w, is := Winding(Moved(great, by), p(near.X+by.X, near.Y+by.Y)); w != want || !is {
			t.Fatal("moved", l, a, c, by)
		}
		if w, is := Winding(Turned(great), near); w != -want || !is || Area(Turned(l)) != -Area(l) || Area(First(l)) != Area(l) || Area(Moved(l, by)) != Area(l) {
			t.Fatal("turned", l, near)
		}
	}
}

// TestShapes: P3.3.
func TestShapes(t *testing.T) {
	for _, x := range []struct{ l, thin, turned, first []api.Point }{
		{nil, nil, nil, nil},
		{[]api.Point{p(1, 1)}, []api.Point{p(1, 1)}, []api.Point{p(1, 1)}, []api.Point{p(1, 1)}},
		{[]api.Point{p(1, 1), p(1, 1), p(1, 1)}, []api.Point{p(1, 1)}, []api.Point{p(1, 1), p(1, 1), p(1, 1)}, []api.Point{p(1, 1), p(1, 1), p(1, 1)}},
		{[]api.Point{p(2, 1), p(2, 1), p(3, 1), p(2, 0), p(2, 1), p(2, 1)}, []api.Point{p(2, 1), p(3, 1), p(2, 0)}, []api.Point{p(2, 1), p(2, 1), p(2, 1), p(2, 0), p(3, 1), p(2, 1)}, []api.Point{p(2, 0), p(2, 1), p(2, 1), p(2, 1), p(2, 1), p(3, 1)}},
		{[]api.Point{p(5, 5), p(1, 1), p(3, 1), p(1, 1), p(2, 7)}, []api.Point{p(5, 5), p(1, 1), p(3, 1), p(1, 1), p(2, 7)}, []api.Point{p(5, 5), p(2, 7), p(1, 1), p(3, 1), p(1, 1)}, []api.Point{p(1, 1), p(3, 1), p(1, 1), p(2, 7), p(5, 5)}},
	} {
		before := slices.Clone(x.l)
		if got := Thin(x.l); !slices.Equal(got, x.thin) {
			t.Error("thin", x.l, got)
		}
		if got := Turned(x.l); !slices.Equal(got, x.turned) {
			t.Error("turned", x.l, got)
		}
		if got := First(x.l); !slices.Equal(got, x.first) {
			t.Error("first", x.l, got)
		}
		if !slices.Equal(before, x.l) {
			t.Error("changed", before)
		}
	}
	if got := Moved(square(), p(1, -2)); !slices.Equal(got, []api.Point{p(1, -2), p(5, -2), p(5, 2), p(1, 2)}) {
		t.Error("moved", got)
	}
	if got := Scaled(square(), -3); !slices.Equal(got, []api.Point{p(0, 0), p(-12, 0), p(-12, -12), p(0, -12)}) {
		t.Error("scaled", got)
	}
	if got := Moved([]api.Point{p(math.MaxInt, 0)}, p(1, 1)); got[0] != p(math.MinInt, 1) {
		t.Error("round", got)
	}
	if got := Scaled([]api.Point{p(math.MinInt, 3)}, 2); got[0] != p(0, 6) {
		t.Error("round", got)
	}
	if len(Moved(nil, p(1, 1))) != 0 || len(Scaled(nil, 2)) != 0 {
		t.Error("nothing")
	}
}

// TestNewMemory: what is answered isn't the ring that was handed in.
func TestNewMemory(t *testing.T) {
	l := append(make([]api.Point, 0, 9), square()...)
	for i, got := range [][]api.Point{Thin(l), Turned(l), First(l), Moved(l, p(0, 0)), Scaled(l, 1)} {
		for j := range got {
			got[j] = p(9, 9)
		}
		if !slices.Equal(l, square()) {
			t.Fatal(i)
		}
	}
}

// TestAlike: P3.3, held against every beginning.
func TestAlike(t *testing.T) {
	if !Alike(nil, nil) || Alike(nil, square()) || Alike(square(), nil) || Alike(square(), square()[:3]) {
		t.Error("unlike many points")
	}
	if !Alike(square(), square()) || !Alike(square(), First(Moved(square(), p(0, 0)))) || Alike(square(), Turned(square())) {
		t.Error("square")
	}
	r := rand.New(rand.NewSource(7))
	for range 5000 {
		n := 1 + r.Intn(7)
		x, y := make([]api.Point, n), make([]api.Point, n)
		for i := range n {
			x[i], y[i] = p(r.Intn(2), 0), p(r.Intn(2), 0)
		}
		want := false
		for i := range n {
			want = want || slices.Equal(append(slices.Clone(x[i:]), x[:i]...), y)
		}
		if Alike(x, y) != want || Alike(y, x) != want {
			t.Fatal(x, y, want)
		}
	}
}
