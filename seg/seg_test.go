package seg

import (
	"math/big"
	"math/rand"
	"slices"
	"testing"

	"graticule/api"
	"graticule/exact"
)

func p(x, y int) api.Point { return api.Point{X: x, Y: y} }

const b = api.Bound

// TestClass: P2.1 and P2.4, both segments told from both ends, and both first.
func TestClass(t *testing.T) {
	for _, x := range []struct {
		a, b, c, d api.Point
		class      int
	}{
		{p(0, 0), p(4, 4), p(0, 4), p(4, 0), Cross},
		{p(0, 0), p(4, 0), p(2, 0), p(2, 3), Tee},
		{p(0, 0), p(4, 0), p(4, 0), p(4, 3), Touch},
		{p(0, 0), p(4, 0), p(4, 0), p(9, 0), Touch},
		{p(0, 0), p(4, 0), p(5, 0), p(9, 0), Apart},
		{p(0, 0), p(4, 0), p(3, 0), p(9, 0), Overlap},
		{p(0, 0), p(4, 0), p(1, 0), p(3, 0), Overlap},
		{p(0, 0), p(4, 0), p(0, 0), p(3, 0), Overlap},
		{p(0, 0), p(4, 0), p(4, 0), p(0, 0), Same},
		{p(0, 0), p(4, 0), p(0, 1), p(4, 1), Apart},
		{p(0, 0), p(4, 0), p(2, 1), p(2, 3), Apart},
		{p(0, 0), p(4, 4), p(5, 4), p(9, 0), Apart},
		{p(0, 0), p(4, 4), p(5, 5), p(9, 0), Apart},
		{p(0, 0), p(6, 4), p(3, 2), p(6, 4), Overlap},
		{p(0, 0), p(0, 9), p(0, 9), p(0, 12), Touch},
		{p(-b, -b), p(b, b), p(-b, b), p(b, -b), Cross},
		{p(-b, -b), p(b, b), p(-b, -b), p(b, b-1), Touch},
	} {
		l := [4]api.Point{x.a, x.b, x.c, x.d}
		for _, o := range [][4]int{{0, 1, 2, 3}, {1, 0, 2, 3}, {0, 1, 3, 2}, {1, 0, 3, 2}, {2, 3, 0, 1}, {3, 2, 0, 1}, {2, 3, 1, 0}, {3, 2, 1, 0}} {
			if c, err := Class(l[o[0]], l[o[1]], l[o[2]], l[o[3]]); c != x.class || err != api.OK {
				t.Error(x, o, Word(c), err)
			}
		}
	}
	far := p(b+1, 0)
	if c, err := Class(far, far, far, far); c != 0 || err != api.ErrRange {
		t.Error("out of range, ahead of like ends", c, err)
	}
	if c, err := Class(p(0, 0), p(0, 0), p(0, 0), far); c != 0 || err != api.ErrRange {
		t.Error("out of range", c, err)
	}
	if c, err := Class(p(0, 0), p(0, 0), p(0, 0), p(1, 0)); c != 0 || err != api.ErrArg {
		t.Error("like ends", c, err)
	}
	if c, err := Class(p(0, 0), p(1, 0), p(7, 7), p(7, 7)); c != 0 || err != api.ErrArg {
		t.Error("like ends", c, err)
	}
}

// common are the points of a small grid that lie on both segments.
func common(a, b, c, d api.Point) []api.Point {
	var out []api.Point
	for x := range 13 {
		for y := range 13 {
			if q := p(x, y); exact.On(a, b, q) && exact.On(c, d, q) {
				out = append(out, q)
			}
		}
	}
	return out
}

// TestClassByGrid: P2.1, held against the points of a small grid, where what crosses is looked at by sides.
func TestClassByGrid(t *testing.T) {
	r := rand.New(rand.NewSource(3))
	for range 20000 {
		q := func() api.Point { return p(r.Intn(5), r.Intn(5)) }
		a, b, c, d := q(), q(), q(), q()
		if a == b || c == d {
			continue
		}
		got, err := Class(a, b, c, d)
		l := common(a, b, c, d)
		ends := 0
		for _, e := range []api.Point{a, b} {
			if e == c || e == d {
				ends++
			}
		}
		on := exact.On(a, b, c) || exact.On(a, b, d) || exact.On(c, d, a) || exact.On(c, d, b)
		sides := exact.Turn(a, b, c)*exact.Turn(a, b, d) < 0 && exact.Turn(c, d, a)*exact.Turn(c, d, b) < 0
		want := Apart
		switch {
		case ends == 2:
			want = Same
		case len(l) > 1:
			want = Overlap
		case len(l) == 1 && ends == 1:
			want = Touch
		case on:
			want = Tee
		case sides:
			want = Cross
		}
		if got != want || err != api.OK {
			t.Fatal(a, b, c, d, Word(got), Word(want), err)
		}
	}
}

// TestWord: P2.1.
func TestWord(t *testing.T) {
	for i, w := range []string{"apart", "touch", "tee", "cross", "overlap", "same"} {
		if Word(i) != w {
			t.Error(i, Word(i))
		}
	}
	if Word(-1) != "" || Word(6) != "" {
		t.Error("no class")
	}
	if Apart != 0 || Touch != 1 || Tee != 2 || Cross != 3 || Overlap != 4 || Same != 5 {
		t.Error("numbers")
	}
}

// TestAt: P2.2.
func TestAt(t *testing.T) {
	for _, x := range []struct {
		a, b   api.Point
		c, got int
		ok     bool
	}{
		{p(0, 0), p(5, 3), 2, 1, true}, {p(0, 0), p(5, 3), 4, 2, true}, {p(5, 3), p(0, 0), 4, 2, true},
		{p(0, 0), p(2, 1), 1, 1, true}, {p(0, 0), p(2, -1), 1, 0, true}, {p(0, -1), p(2, -2), 1, -1, true},
		{p(0, 0), p(5, 3), 0, 0, false}, {p(0, 0), p(5, 3), 5, 0, false}, {p(0, 0), p(5, 3), 6, 0, false}, {p(0, 0), p(5, 3), -1, 0, false},
		{p(4, 0), p(4, 9), 4, 0, false}, {p(4, 4), p(4, 4), 4, 0, false}, {p(0, 7), p(5, 7), 3, 7, true},
		{p(-b, -b), p(b, b), 5, 5, true}, {p(-b, b), p(b, -b), b - 1, 1 - b, true}, {p(-b, b), p(b, b-1), 0, b, true},
		{p(0, 0), p(b+1, 0), 5, 0, false}, {p(-b-1, 0), p(0, 0), -5, 0, false},
	} {
		if got, ok := AtX(x.a, x.b, x.c); got != x.got || ok != x.ok {
			t.Error("X", x, got, ok)
		}
		if got, ok := AtY(p(x.a.Y, x.a.X), p(x.b.Y, x.b.X), x.c); got != x.got || ok != x.ok {
			t.Error("Y", x, got, ok)
		}
	}
}

// slowCuts does what P2.3 says, with fractions.
func slowCuts(a, b api.Point, xs, ys []int) []api.Point {
	type at struct {
		t *big.Rat
		p api.Point
	}
	var l []at
	for _, c := range xs {
		if y, ok := AtX(a, b, c); ok {
			l = append(l, at{big.NewRat(int64(c-a.X), int64(b.X-a.X)), p(c, y)})
		}
	}
	for _, c := range ys {
		if x, ok := AtY(a, b, c); ok {
			l = append(l, at{big.NewRat(int64(c-a.Y), int64(b.Y-a.Y)), p(x, c)})
		}
	}
	slices.SortStableFunc(l, func(x, y at) int { return x.t.Cmp(y.t) })
	all := []api.Point{a}
	for _, x := range l {
		all = append(all, x.p)
	}
	all = slices.Compact(append(all, b))
	return all[1 : len(all)-1]
}

// TestCuts: P2.3.
func TestCuts(t *testing.T) {
	if got := Cuts(p(0, 0), p(5, 3), []int{2, 4}, []int{1}); !slices.Equal(got, []api.Point{p(2, 1), p(4, 2)}) {
		t.Error("the example", got)
	}
	if got := Cuts(p(0, 0), p(0, 0), []int{0, 1}, []int{0}); len(got) != 0 {
		t.Error("one point", got)
	}
	if len(Cuts(p(0, 0), p(b+1, 0), []int{2}, nil)) != 0 || len(Cuts(p(-b-1, 0), p(0, 0), []int{-2}, nil)) != 0 {
		t.Error("points that may not be")
	}
	if got := Cuts(p(0, 0), p(100, 1), []int{30, 10, 20, 10, 99}, []int{0, 1}); !slices.Equal(got, []api.Point{p(10, 0), p(20, 0), p(30, 0), p(99, 1)}) {
		t.Error("in no order, one twice", got)
	}
	// The cut (1, 0) by X, and (1, 0) by Y of an edge from (0, -1): the same once; cuts that round to an end go.
	if got := Cuts(p(0, 0), p(3, 100), nil, []int{1, 99}); !slices.Equal(got, []api.Point{p(0, 1), p(3, 99)}) {
		t.Error("ends", got)
	}
	if got := Cuts(p(0, 0), p(1, 1000), nil, []int{1, 999}); !slices.Equal(got, []api.Point{p(0, 1), p(1, 999)}) {
		t.Error("ends", got)
	}
}

// TestCutsFollow: P2.3 by fractions; P2.4: from the other end, and between lines.
func TestCutsFollow(t *testing.T) {
	r := rand.New(rand.NewSource(4))
	for i := range 3000 {
		size := []int{6, 40, b}[i%3]
		n := func() int { return r.Intn(2*size+1) - size }
		a, c := p(n(), n()), p(n(), n())
		var xs, ys []int
		for range r.Intn(8) {
			xs, ys = append(xs, n()), append(ys, n())
		}
		got := Cuts(a, c, xs, ys)
		if a != c && !slices.Equal(got, slowCuts(a, c, xs, ys)) {
			t.Fatal(a, c, xs, ys, got)
		}
		back := Cuts(c, a, xs, ys)
		slices.Reverse(back)
		if !slices.Equal(got, back) {
			t.Fatal("back", a, c, xs, ys, got, back)
		}
		row := append(append([]api.Point{a}, got...), c)
		for j := range row[1:] {
			u, v := row[j], row[j+1]
			for _, k := range xs {
				if u.X < k && k < v.X || v.X < k && k < u.X {
					t.Fatal("not cut", a, c, xs, ys)
				}
			}
			for _, k := range ys {
				if u.Y < k && k < v.Y || v.Y < k && k < u.Y {
					t.Fatal("not cut", a, c, xs, ys)
				}
			}
		}
	}
}
