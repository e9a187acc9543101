package guard

import (
	"slices"
	"testing"

	"graticule/api"
	"graticule/arcs"
	"graticule/exact"
	"graticule/order"
	"graticule/sample"
	"graticule/seg"
)

func p(x, y int) api.Point { return api.Point{X: x, Y: y} }

func arc(l ...api.Point) arcs.Arc { return arcs.Arc{Points: l} }

// TestWhy: P18.1.
func TestWhy(t *testing.T) {
	hill := arc(p(0, 0), p(2, 1), p(4, 0))
	far := p(api.Bound+1, 0)
	for _, x := range []struct {
		name    string
		lines   []int
		l       []arcs.Arc
		a, b, c api.Point
		why     int
	}{
		{"the example", nil, []arcs.Arc{hill}, p(0, 0), p(2, 1), p(4, 0), Free}, {"a point below", nil, []arcs.Arc{hill, arc(p(2, 0), p(2, -5))}, p(0, 0), p(2, 1), p(4, 0), Point},
		{"one on the border", nil, []arcs.Arc{arc(p(0, 0), p(4, 2), p(8, 0)), arc(p(2, 1))}, p(0, 0), p(4, 2), p(8, 0), Point}, {"one beyond", nil, []arcs.Arc{hill, arc(p(2, 2), p(2, -1), p(5, 0))}, p(0, 0), p(2, 1), p(4, 0), Free},
		{"straight", nil, []arcs.Arc{arc(p(0, 0), p(2, 0), p(4, 0))}, p(0, 0), p(2, 0), p(4, 0), Free}, {"straight, one between", nil, []arcs.Arc{arc(p(0, 0), p(2, 0), p(4, 0)), arc(p(3, 0))}, p(0, 0), p(2, 0), p(4, 0), Point},
		{"a is c", nil, []arcs.Arc{hill}, p(0, 0), p(2, 1), p(0, 0), Ends}, {"b is a", nil, []arcs.Arc{hill}, p(0, 0), p(0, 0), p(4, 0), Ends}, {"b is c", nil, []arcs.Arc{hill}, p(0, 0), p(4, 0), p(4, 0), Ends},
		{"no a", nil, []arcs.Arc{hill}, p(0, 1), p(2, 1), p(4, 0), Ends}, {"no b", nil, []arcs.Arc{hill}, p(0, 0), p(2, 2), p(4, 0), Ends}, {"no c", nil, []arcs.Arc{hill}, p(0, 0), p(2, 1), p(5, 0), Ends},
		{"far a", nil, []arcs.Arc{hill, arc(far)}, far, p(2, 1), p(4, 0), Ends}, {"far b", nil, []arcs.Arc{hill, arc(far)}, p(0, 0), far, p(4, 0), Ends}, {"far c", nil, []arcs.Arc{hill, arc(far)}, p(0, 0), p(2, 1), far, Ends},
		{"strips by X", []int{2}, []arcs.Arc{arc(p(0, 0), p(2, 1), p(4, 0), p(0, 0)), arc(p(2, 0))}, p(0, 0), p(2, 1), p(4, 0), Strip}, {"strips by Y", []int{1}, []arcs.Arc{arc(p(0, 0), p(0, 1), p(0, 2))}, p(0, 0), p(0, 1), p(0, 2), Strip}, {"on lines", []int{0, 4}, []arcs.Arc{hill}, p(0, 0), p(2, 1), p(4, 0), Free},
		{"at the bound", nil, []arcs.Arc{arc(p(0, 0), p(api.Bound, api.Bound), p(api.Bound, 0)), arc(p(api.Bound, 5))}, p(0, 0), p(api.Bound, api.Bound), p(api.Bound, 0), Point}, {"at the other bound", nil, []arcs.Arc{arc(p(0, 0), p(-api.Bound, -api.Bound), p(-api.Bound, 0)), arc(p(-api.Bound, -5))}, p(0, 0), p(-api.Bound, -api.Bound), p(-api.Bound, 0), Point},
		{"an edge", nil, []arcs.Arc{hill, arc(p(4, 0), p(0, 0)), arc(p(2, 0))}, p(0, 0), p(2, 1), p(4, 0), Edge}, {"not joined with b", nil, []arcs.Arc{arc(p(0, 0)), arc(p(2, 1)), arc(p(4, 0))}, p(0, 0), p(2, 1), p(4, 0), Free},
	} {
		g := New(x.lines, x.l...)
		if why := g.Why(x.a, x.b, x.c); why != x.why || g.Why(x.c, x.b, x.a) != x.why {
			t.Error(x.name, why)
		}
		points, edges := g.Points(), g.Edges()
		if g.Drop(x.a, x.b, x.c) != (x.why == Free) || x.why != Free && (!slices.Equal(g.Points(), points) || g.Edges() != edges) || x.why == Free && (g.Has(x.b) || !g.Joined(x.c, x.a) || g.Joined(x.b, x.a) || g.Joined(x.b, x.c)) {
			t.Error("drop", x.name)
		}
	}
	if Free != 0 || Ends != 1 || Strip != 2 || Edge != 3 || Point != 4 {
		t.Error("numbers")
	}
}

// TestParts: P18.2.
func TestParts(t *testing.T) {
	lines := []int{3}
	l := []arcs.Arc{arc(p(0, 0), p(2, 1), p(2, 1), p(4, 0)), arc(p(4, 0), p(2, 1), p(9, 9)), arc(), arc(p(-1, 7))}
	g := New(lines, l...)
	if !slices.Equal(g.Points(), []api.Point{p(-1, 7), p(0, 0), p(2, 1), p(4, 0), p(9, 9)}) || g.Edges() != 3 {
		t.Error(g.Points(), g.Edges())
	}
	if !g.Has(p(-1, 7)) || g.Has(p(-1, 8)) || !g.Joined(p(2, 1), p(0, 0)) || !g.Joined(p(0, 0), p(2, 1)) || g.Joined(p(0, 0), p(4, 0)) || g.Joined(p(2, 1), p(2, 1)) {
		t.Error("parts")
	}
	lines[0], l[0].Points[0] = 99, p(50, 50)
	if g.Why(p(0, 0), p(2, 1), p(4, 0)) != Strip {
		t.Error("kept what was handed in")
	}
	free := New(nil, arc(p(0, 0), p(2, 1), p(4, 0)), arc(p(2, 1), p(9, 9)))
	if !free.Drop(p(0, 0), p(2, 1), p(4, 0)) || free.Edges() != 2 || !free.Joined(p(2, 1), p(9, 9)) || free.Has(p(2, 1)) {
		t.Error("an edge with another point stays")
	}
	if none := New(nil); none.Edges() != 0 || len(none.Points()) != 0 {
		t.Error("nothing")
	}
}

// TestNil: P18.3.
func TestNil(t *testing.T) {
	var g *Guard
	if g.Why(p(0, 0), p(1, 1), p(2, 0)) != Ends || g.Drop(p(0, 0), p(1, 1), p(2, 0)) || g.Has(p(0, 0)) || g.Joined(p(0, 0), p(1, 1)) || len(g.Points()) != 0 || g.Edges() != 0 {
		t.Error("nil")
	}
}

// slow is Why by its words.
func slow(lines []int, points map[api.Point]bool, edges map[[2]api.Point]bool, a, b, c api.Point) int {
	if a == c || a == b || b == c || !points[a] || !points[b] || !points[c] {
		return Ends
	}
	if !order.Common(lines, a.X, c.X) || !order.Common(lines, a.Y, c.Y) {
		return Strip
	}
	if edges[[2]api.Point{a, c}] || edges[[2]api.Point{c, a}] {
		return Edge
	}
	for q := range points {
		if q != a && q != b && q != c && exact.InTriangle(a, b, c, q) {
			return Point
		}
	}
	return Free
}

// TestFollows: P18.1 by its words, after any drops; P18.3.
func TestFollows(t *testing.T) {
	r := sample.New(24)
	dropped := 0
	for range 100 {
		all, err := arcs.Cut(sample.Of(r, sample.Shape{Size: 3 + r.Next(3), Count: 3, Step: 9, Jitter: 2})...)
		if err != api.OK {
			t.Fatal(err)
		}
		lines := [][]int{nil, {9}, {10, 20}}[r.Next(3)]
		g := New(lines, all...)
		points, edges := map[api.Point]bool{}, map[[2]api.Point]bool{}
		for _, a := range all {
			for i, q := range a.Points {
				points[q] = true
				if i > 0 {
					edges[[2]api.Point{a.Points[i-1], q}] = true
				}
			}
		}
		for range 200 * min(1, len(all)) {
			n := r.Next(len(all))
			l := all[n].Points
			if len(l) < 3 {
				continue
			}
			i := 1 + r.Next(len(l)-2)
			a, b, c := l[i-1], l[i], l[i+1]
			want := slow(lines, points, edges, a, b, c)
			if g.Why(a, b, c) != want || g.Why(c, b, a) != want {
				t.Fatal(all, a, b, c, want)
			}
			if g.Drop(a, b, c) {
				dropped++
				delete(points, b)
				for _, e := range [][2]api.Point{{a, b}, {b, a}, {b, c}, {c, b}} {
					delete(edges, e)
				}
				edges[[2]api.Point{a, c}] = true
				all[n].Points = slices.Delete(slices.Clone(l), i, i+1)
			}
			if g.Edges() != len(edges) || len(g.Points()) != len(points) {
				t.Fatal("counts")
			}
		}
		var left [][2]api.Point
		for e := range edges {
			left = append(left, e)
			if !g.Joined(e[1], e[0]) {
				t.Fatal("joined")
			}
		}
		for i, e := range left {
			for _, f := range left[:i] {
				if class, _ := seg.Class(e[0], e[1], f[0], f[1]); class != seg.Apart && class != seg.Touch {
					t.Fatal("crossing", e, f)
				}
			}
		}
	}
	if dropped < 300 {
		t.Error("too few", dropped)
	}
}
