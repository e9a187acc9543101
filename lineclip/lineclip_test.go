package lineclip

import (
	"slices"
	"testing"

	"graticule/api"
	"graticule/rows"
	"graticule/sample"
	"graticule/seg"
)

func p(x, y int) api.Point { return api.Point{X: x, Y: y} }

func box(a, b, c, d int) rows.Box { return rows.Box{Low: p(a, b), High: p(c, d)} }

const far = api.Bound + 1

func same(a, b [][]api.Point) bool { return slices.EqualFunc(a, b, slices.Equal[[]api.Point]) }

// TestShown: P22.1.
func TestShown(t *testing.T) {
	b := box(0, 0, 5, 5)
	for _, x := range []struct {
		p, q  api.Point
		b     rows.Box
		shown bool
	}{
		{p(1, 1), p(2, 2), b, true}, {p(0, 0), p(5, 5), b, true}, {p(0, 1), p(5, 1), b, true}, {p(0, 0), p(2, 0), b, false}, {p(0, 0), p(0, 2), b, false}, {p(5, 0), p(5, 2), b, false}, {p(1, 5), p(2, 5), b, false}, {p(0, 2), p(2, 0), b, true},
		{p(1, 1), p(1, 1), b, false}, {p(1, 1), p(6, 1), b, false}, {p(-1, 1), p(1, 1), b, false}, {p(1, 1), p(1, 6), b, false}, {p(7, 7), p(8, 8), b, false},
		{p(1, 1), p(2, 2), box(5, 0, 0, 5), false}, {p(1, 1), p(2, 2), box(0, 0, far, 5), false}, {p(1, 1), p(far, 2), b, false}, {p(0, 1), p(0, 2), box(0, 0, 0, 5), false},
	} {
		if Shown(x.p, x.q, x.b) != x.shown || Shown(x.q, x.p, x.b) != x.shown {
			t.Error(x)
		}
	}
}

// TestParts: P22.1.
func TestParts(t *testing.T) {
	b := box(0, 0, 5, 5)
	row := []api.Point{p(0, 0), p(2, 0), p(4, 2), p(9, 2), p(4, 4), p(2, 4)}
	for _, x := range []struct {
		l     []api.Point
		b     rows.Box
		parts [][]api.Point
		count int
	}{
		{row, b, [][]api.Point{{p(2, 0), p(4, 2)}, {p(4, 4), p(2, 4)}}, 2}, {nil, b, nil, 0}, {[]api.Point{p(1, 1)}, b, nil, 0}, {[]api.Point{p(1, 1), p(1, 1), p(2, 1), p(2, 1)}, b, [][]api.Point{{p(1, 1), p(2, 1)}}, 1},
		{[]api.Point{p(1, 1), p(3, 1), p(1, 2), p(1, 1)}, b, [][]api.Point{{p(1, 1), p(3, 1), p(1, 2), p(1, 1)}}, 3}, {row, box(1, 0, 0, 5), nil, 0}, {[]api.Point{p(1, 1), p(far, 1), p(1, 2), p(2, 2)}, b, [][]api.Point{{p(1, 2), p(2, 2)}}, 1},
		{[]api.Point{p(1, 0), p(0, 0), p(0, 3), p(2, 3)}, b, [][]api.Point{{p(0, 3), p(2, 3)}}, 1},
	} {
		if got := Parts(x.l, x.b); !same(got, x.parts) || Count(x.l, x.b) != x.count {
			t.Error(x, got, Count(x.l, x.b))
		}
	}
	got := Parts(row, b)
	_ = append(got[0], p(77, 77))
	got[1][0] = p(66, 66)
	if row[4] != p(4, 4) || got[1][0] != p(66, 66) || got[0][1] != p(4, 2) {
		t.Error("shared")
	}
}

// TestMeets: P22.2.
func TestMeets(t *testing.T) {
	b := box(0, 0, 5, 5)
	for _, x := range []struct {
		l    []api.Point
		b    rows.Box
		meet bool
	}{
		{[]api.Point{p(1, 1), p(2, 2)}, b, true}, {[]api.Point{p(0, 0), p(5, 0), p(5, 5)}, b, false}, {[]api.Point{p(-5, 2), p(9, 3)}, b, true}, {[]api.Point{p(-3, 2), p(2, -3)}, b, false}, {[]api.Point{p(-1, 2), p(2, -1)}, b, true}, {[]api.Point{p(-2, 2), p(2, -2)}, b, false},
		{[]api.Point{p(1, 1), p(1, 1)}, b, false}, {[]api.Point{p(1, 1)}, b, false}, {nil, b, false}, {[]api.Point{p(0, 0), p(0, 9), p(2, 2)}, b, true}, {[]api.Point{p(5, 5), p(9, 9)}, b, false}, {[]api.Point{p(4, 9), p(9, 4)}, b, false},
		{[]api.Point{p(1, 1), p(far, 1)}, b, false}, {[]api.Point{p(1, 1), p(far, 1), p(1, 2), p(2, 2)}, b, true}, {[]api.Point{p(1, 1), p(2, 2)}, box(5, 5, 0, 0), false}, {[]api.Point{p(-1, 1), p(2, 2)}, box(0, 0, 0, 5), false}, {[]api.Point{p(1, -1), p(2, 2)}, box(0, 1, 5, 1), false},
		{[]api.Point{p(-9, 0), p(9, 0)}, b, false}, {[]api.Point{p(-4, -4), p(9, 9)}, b, true}, {[]api.Point{p(0, 5), p(5, 0)}, b, true},
	} {
		if Meets(x.l, x.b) != x.meet {
			t.Error(x)
		}
	}
}

// TestJoin: P22.3.
func TestJoin(t *testing.T) {
	a, c := []api.Point{p(0, 0), p(1, 1)}, []api.Point{p(1, 1), p(2, 2)}
	for _, x := range []struct{ parts, want [][]api.Point }{
		{nil, nil}, {[][]api.Point{nil, {}}, nil}, {[][]api.Point{a, nil, c, a}, [][]api.Point{{p(0, 0), p(1, 1), p(2, 2)}, a}}, {[][]api.Point{c, a}, [][]api.Point{c, a}}, {[][]api.Point{{p(3, 3)}, {p(3, 3)}, {p(3, 3), p(4, 4)}}, [][]api.Point{{p(3, 3), p(4, 4)}}},
		{[][]api.Point{a, {p(1, 1), p(0, 0)}, a}, [][]api.Point{{p(0, 0), p(1, 1), p(0, 0), p(1, 1)}}},
	} {
		got := Join(x.parts...)
		if !same(got, x.want) || !same(Join(got...), got) {
			t.Error(x, got)
		}
	}
	room := append(make([]api.Point, 0, 9), a...)
	got := Join(room, c)
	got[0][0] = p(9, 9)
	if room[0] != p(0, 0) || room[:3][2] != p(0, 0) {
		t.Error("shared")
	}
}

// TestFollows: P22.2 by points of a finer grid; P22.4.
func TestFollows(t *testing.T) {
	r := sample.New(29)
	for range 20000 {
		b, _ := rows.Of(p(r.Next(9), r.Next(9)), p(r.Next(9), r.Next(9)))
		a, c := p(r.Next(13)-2, r.Next(13)-2), p(r.Next(13)-2, r.Next(13)-2)
		row := append(append([]api.Point{a}, seg.Cuts(a, c, []int{b.Low.X, b.High.X}, []int{b.Low.Y, b.High.Y})...), c)
		for i := 1; i < len(row); i++ {
			if e := row[i-1 : i+1]; e[0] != e[1] && Meets(e, b) != Shown(e[0], e[1], b) {
				t.Fatal(e, b)
			}
		}
		// Each edge has a point strictly within just if one of many thousand of its points is, so small as it is.
		want := false
		const n = 5040
		for k := range n + 1 {
			x, y := a.X*n+(c.X-a.X)*k, a.Y*n+(c.Y-a.Y)*k
			want = want || a != c && x > b.Low.X*n && x < b.High.X*n && y > b.Low.Y*n && y < b.High.Y*n
		}
		if Meets([]api.Point{a, c}, b) != want {
			t.Fatal(a, c, b)
		}
		parts := [][]api.Point{row[:r.Next(len(row)+1)], row[:r.Next(len(row)+1)], row}
		if joined := Join(parts...); !same(Join(joined...), joined) {
			t.Fatal(joined)
		}
	}
}
