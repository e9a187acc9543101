package arcs

import (
	"slices"
	"testing"

	"graticule/api"
	"graticule/exact"
	"graticule/face"
	"graticule/ring"
	"graticule/sample"
)

func p(x, y int) api.Point { return api.Point{X: x, Y: y} }

func box(a, b, c, d int) []api.Point { return []api.Point{p(a, b), p(c, b), p(c, d), p(a, d)} }

func of(rings ...[]api.Point) face.Face { return face.Face{Rings: rings} }

// TestCut: P14.1.
func TestCut(t *testing.T) {
	for _, x := range []struct {
		name  string
		l     []face.Face
		want  []Arc
		knots []api.Point
	}{
		{"nothing", nil, nil, nil}, {"no rings", []face.Face{of()}, nil, nil},
		{"one box", []face.Face{of(), of(box(3, 3, 9, 9))}, []Arc{{[]api.Point{p(3, 3), p(3, 9), p(9, 9), p(9, 3), p(3, 3)}, 0, 2}}, nil},
		{"two boxes", []face.Face{of(box(0, 0, 4, 4)), of(box(4, 0, 8, 4))}, []Arc{
			{[]api.Point{p(4, 0), p(0, 0), p(0, 4), p(4, 4)}, 0, 1}, {[]api.Point{p(4, 0), p(4, 4)}, 1, 2}, {[]api.Point{p(4, 0), p(8, 0), p(8, 4), p(4, 4)}, 2, 0},
		}, []api.Point{p(4, 0), p(4, 4)}},
		{"two in a point", []face.Face{of(box(0, 0, 4, 4)), of(box(4, 4, 8, 8))}, []Arc{
			{[]api.Point{p(4, 4), p(0, 4), p(0, 0), p(4, 0), p(4, 4)}, 1, 0}, {[]api.Point{p(4, 4), p(4, 8), p(8, 8), p(8, 4), p(4, 4)}, 0, 2},
		}, []api.Point{p(4, 4)}},
		{"a box in a hole", []face.Face{of(box(2, 2, 4, 4)), of(box(0, 0, 9, 9), ring.Turned(box(2, 2, 4, 4)))}, []Arc{
			{[]api.Point{p(0, 0), p(0, 9), p(9, 9), p(9, 0), p(0, 0)}, 0, 2}, {[]api.Point{p(2, 2), p(2, 4), p(4, 4), p(4, 2), p(2, 2)}, 2, 1},
		}, nil},
	} {
		got, err := Cut(x.l...)
		if err != api.OK || !Same(got, x.want) {
			t.Error(x.name, got, err)
		}
		if knots := Knots(x.l...); !slices.Equal(knots, x.knots) {
			t.Error(x.name, knots)
		}
	}
	for _, x := range []struct {
		f   face.Face
		err api.Errno
	}{{of(nil), api.ErrRing}, {of(box(0, 0, 4, 4), box(2, 2, 6, 6)), api.ErrMatch}, {of(box(0, 0, 4, 4), box(0, 0, 4, 4)), api.ErrTwice}, {of(ring.Turned(box(0, 0, 4, 4))), api.ErrSide}} {
		if got, err := Cut(x.f); err != x.err || len(got) > 0 || len(Knots(x.f)) > 0 {
			t.Error(x, got, err)
		}
	}
}

// TestParts: P14.2.
func TestParts(t *testing.T) {
	for _, x := range []struct {
		a, b []api.Point
		way  int
	}{{nil, nil, 0}, {nil, []api.Point{p(0, 0)}, -1}, {[]api.Point{p(0, 0), p(9, 9)}, []api.Point{p(0, 1)}, -1}, {[]api.Point{p(1, 0)}, []api.Point{p(0, 1), p(0, 0)}, 1}, {[]api.Point{p(1, 0)}, []api.Point{p(1, 0), p(0, 0)}, -1}, {[]api.Point{p(1, 0)}, []api.Point{p(1, 0)}, 0}} {
		if Compare(x.a, x.b) != x.way || Compare(x.b, x.a) != -x.way {
			t.Error(x)
		}
	}
	a := Arc{[]api.Point{p(0, 0), p(1, 0), p(1, 1)}, 3, 4}
	back := Turned(a)
	if !Same([]Arc{back}, []Arc{{[]api.Point{p(1, 1), p(1, 0), p(0, 0)}, 4, 3}}) || a.Points[0] != p(0, 0) || !Same([]Arc{Turned(Arc{})}, []Arc{{}}) {
		t.Error(back)
	}
	for n, l := range [][]api.Point{nil, {p(1, 1)}, {p(1, 1), p(2, 2)}} {
		if Closed(Arc{Points: l}) {
			t.Error(n)
		}
	}
	if !Closed(Arc{Points: []api.Point{p(1, 1), p(1, 1)}}) || !Closed(Arc{Points: []api.Point{p(1, 1), p(2, 1), p(1, 1)}}) {
		t.Error("closed")
	}
	if Edges() != 0 || Edges(a, Arc{}, Arc{Points: []api.Point{p(1, 1)}}, a) != 4 {
		t.Error("edges")
	}
	if !Same(nil, []Arc{}) || Same([]Arc{a}, nil) || Same([]Arc{a}, []Arc{back}) || Same([]Arc{a}, []Arc{{a.Points, 3, 5}}) || Same([]Arc{a}, []Arc{{a.Points, 2, 4}}) || Same([]Arc{a}, []Arc{{a.Points[:2], 3, 4}}) {
		t.Error("same")
	}
}

// TestFollows: P14.1 by its words, and P14.3.
func TestFollows(t *testing.T) {
	r := sample.New(20)
	for i := range 200 {
		l := sample.Of(r, sample.Shape{Size: 2 + i%5, Count: 1 + i%4, Step: 9, Plain: i%2 == 0})
		got, err := Cut(l...)
		if err != api.OK {
			t.Fatal(err)
		}
		joined := map[api.Point]map[api.Point]bool{}
		owners := map[[2]api.Point]int{}
		for _, s := range face.Sides(l...) {
			owners[[2]api.Point{s.A, s.B}] = s.Face + 1
			for _, e := range [][2]api.Point{{s.A, s.B}, {s.B, s.A}} {
				if joined[e[0]] == nil {
					joined[e[0]] = map[api.Point]bool{}
				}
				joined[e[0]][e[1]] = true
			}
		}
		var knots []api.Point
		for q, ends := range joined {
			if len(ends) != 2 {
				knots = append(knots, q)
			}
		}
		slices.SortFunc(knots, func(a, b api.Point) int {
			if exact.Less(a, b) {
				return -1
			}
			return 1
		})
		if !slices.Equal(Knots(l...), knots) {
			t.Fatal("knots", l)
		}
		met := map[[2]api.Point]bool{}
		for n, a := range got {
			if n > 0 && Compare(got[n-1].Points, a.Points) >= 0 || Compare(a.Points, Turned(a).Points) >= 0 || a.Left == a.Right {
				t.Fatal("order", l, a)
			}
			for j, q := range a.Points {
				end := j == 0 || j == len(a.Points)-1
				if slices.Contains(knots, q) != end && !(end && Closed(a) && !slices.Contains(knots, q)) {
					t.Fatal("knots within", l, a)
				}
				if Closed(a) && !slices.Contains(knots, a.Points[0]) && exact.Less(q, a.Points[0]) {
					t.Fatal("the least point", l, a)
				}
				if j == 0 {
					continue
				}
				e, back := [2]api.Point{a.Points[j-1], q}, [2]api.Point{q, a.Points[j-1]}
				if met[e] || met[back] || owners[e] != a.Left || owners[back] != a.Right {
					t.Fatal("edges", l, a)
				}
				met[e] = true
			}
		}
		for e := range owners {
			if !met[e] && !met[[2]api.Point{e[1], e[0]}] {
				t.Fatal("missing", l, e)
			}
		}
		otherwise(t, l, got)
	}
}

// otherwise tells faces in another order, and rings from other points on.
func otherwise(t *testing.T, l []face.Face, want []Arc) {
	other := face.Copy(l...)
	slices.Reverse(other)
	for _, f := range other {
		slices.Reverse(f.Rings)
		for i, points := range f.Rings {
			f.Rings[i] = append(slices.Clone(points[1:]), points[0])
		}
	}
	got, _ := Cut(other...)
	if !slices.EqualFunc(got, want, func(a, b Arc) bool { return Compare(a.Points, b.Points) == 0 }) {
		t.Fatal("otherwise", l)
	}
}
