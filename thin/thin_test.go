package thin

import (
	"slices"
	"testing"

	"graticule/api"
	"graticule/arcs"
	"graticule/cover"
	"graticule/face"
	"graticule/guard"
	"graticule/net"
	"graticule/sample"
)

func p(x, y int) api.Point { return api.Point{X: x, Y: y} }

func arc(l ...api.Point) arcs.Arc { return arcs.Arc{Points: l, Left: 3, Right: 4} }

func box(a, b, c, d int) []api.Point { return []api.Point{p(a, b), p(c, b), p(c, d), p(a, d)} }

// TestArcs: P19.1.
func TestArcs(t *testing.T) {
	row := arc(p(0, 0), p(2, 1), p(4, 0), p(6, 0), p(8, 0))
	for _, x := range []struct {
		name  string
		lines []int
		tol   int
		l     []arcs.Arc
		want  []arcs.Arc
		count int
		err   api.Errno
	}{
		{"the example", nil, 3, []arcs.Arc{row}, []arcs.Arc{arc(p(0, 0), p(2, 1), p(4, 0), p(8, 0))}, 1, api.OK},
		{"five", nil, 5, []arcs.Arc{arc(p(0, 0), p(2, 1), p(4, 0))}, []arcs.Arc{arc(p(0, 0), p(4, 0))}, 1, api.OK}, {"four", nil, 4, []arcs.Arc{arc(p(0, 0), p(2, 1), p(4, 0))}, []arcs.Arc{arc(p(0, 0), p(2, 1), p(4, 0))}, 0, api.OK},
		{"nothing goes by 0", nil, 0, []arcs.Arc{arc(p(0, 0), p(2, 0), p(4, 0))}, []arcs.Arc{arc(p(0, 0), p(2, 0), p(4, 0))}, 0, api.OK},
		{"by lines", []int{2}, 9, []arcs.Arc{arc(p(0, 0), p(2, 0), p(4, 0))}, []arcs.Arc{arc(p(0, 0), p(2, 0), p(4, 0))}, 0, api.OK},
		{"a ring stays one", nil, api.MaxTol, []arcs.Arc{arc(p(0, 0), p(4, 0), p(4, 4), p(0, 4), p(0, 0))}, []arcs.Arc{arc(p(0, 0), p(4, 4), p(0, 4), p(0, 0))}, 1, api.OK},
		{"of like ones the first", nil, 99, []arcs.Arc{arc(p(0, 0), p(0, 4), p(4, 4), p(4, 0)), arc(p(0, 0), p(4, 0))}, []arcs.Arc{arc(p(0, 0), p(4, 4), p(4, 0)), arc(p(0, 0), p(4, 0))}, 1, api.OK},
		{"one waits till another goes", nil, 100, []arcs.Arc{arc(p(0, 0), p(4, 4), p(8, 0)), arc(p(2, -9), p(4, 1), p(6, -9), p(9, -9))}, []arcs.Arc{arc(p(0, 0), p(8, 0)), arc(p(2, -9), p(9, -9))}, 3, api.OK},
		{"one waits, and grows too heavy", nil, 100, []arcs.Arc{arc(p(0, 0), p(5, 4), p(10, 0), p(33, -8)), arc(p(5, -60), p(5, 1), p(6, -60))}, []arcs.Arc{arc(p(0, 0), p(5, 4), p(33, -8)), arc(p(5, -60), p(6, -60))}, 2, api.OK},
		{"one waits for another, and grows too heavy", nil, 99, []arcs.Arc{arc(p(0, 0), p(5, 4), p(10, 0), p(26, 1)), arc(p(5, -90), p(5, 1), p(6, -90))}, []arcs.Arc{arc(p(0, 0), p(5, 4), p(26, 1)), arc(p(5, -90), p(6, -90))}, 2, api.OK},
		{"one waits longer", nil, 100, []arcs.Arc{arc(p(0, 0), p(5, 4), p(10, 0)), arc(p(50, 50), p(55, 55), p(60, 51)), arc(p(5, -60), p(5, 1), p(6, -60))}, []arcs.Arc{arc(p(0, 0), p(10, 0)), arc(p(50, 50), p(60, 51)), arc(p(5, -60), p(6, -60))}, 3, api.OK},
		{"no points", nil, 9, []arcs.Arc{arc(), arc(p(1, 1)), arc(p(1, 1), p(2, 2))}, []arcs.Arc{arc(), arc(p(1, 1)), arc(p(1, 1), p(2, 2))}, 0, api.OK},
		{"none", nil, 9, nil, nil, 0, api.OK}, {"below", nil, -1, []arcs.Arc{row}, nil, 0, api.ErrRange}, {"above", nil, api.MaxTol + 1, []arcs.Arc{row}, nil, 0, api.ErrRange},
	} {
		before := slices.Clone(x.l)
		got, count, err := Arcs(x.lines, x.tol, x.l...)
		if !arcs.Same(got, x.want) || count != x.count || err != x.err || !arcs.Same(before, x.l) {
			t.Error(x.name, got, count, err)
		}
	}
	got, _, _ := Arcs(nil, 0, row)
	got[0].Points[0] = p(9, 9)
	if row.Points[0] != p(0, 0) {
		t.Error("shared")
	}
}

// TestWeight: P19.1.
func TestWeight(t *testing.T) {
	a := arc(p(0, 0), p(2, 1), p(4, 0), p(9, 9), p(api.Bound+1, 0), p(1, 1))
	for place, x := range map[int]struct {
		n  int
		ok bool
	}{-1: {0, false}, 0: {0, false}, 1: {4, true}, 2: {23, true}, 3: {0, true}, 4: {0, true}, 5: {0, false}, 6: {0, false}} {
		if n, ok := Weight(a, place); n != x.n || ok != x.ok {
			t.Error(place, n, ok)
		}
	}
	if _, ok := Weight(arcs.Arc{}, 0); ok {
		t.Error("no points")
	}
}

// TestLeft: P19.1.
func TestLeft(t *testing.T) {
	row := arc(p(0, 0), p(2, 1), p(4, 0), p(6, 0), p(8, 0))
	for tol, n := range map[int]int{-1: 0, 0: 0, 1: 1, 2: 1, 3: 2, 4: 2, 5: 3, api.MaxTol: 3, api.MaxTol + 1: 0} {
		if got := Left(nil, tol, row); got != n {
			t.Error(tol, got)
		}
	}
	if Left(nil, 9) != 0 || Left([]int{4}, 9, row) != 2 || Left(nil, 9, arc(p(0, 0), p(2, 2), p(4, 0)), arc(p(2, 1))) != 0 {
		t.Error("what may not go")
	}
}

// slow is Arcs by its words.
func slow(lines []int, tol int, l []arcs.Arc) ([]arcs.Arc, int) {
	g := guard.New(lines, l...)
	var out []arcs.Arc
	for _, a := range l {
		out = append(out, arcs.Arc{Points: slices.Clone(a.Points), Left: a.Left, Right: a.Right})
	}
	for count := 0; ; count++ {
		least, arc, place := tol, -1, 0
		for n, a := range out {
			for i := range a.Points {
				if w, ok := Weight(a, i); ok && w < least && g.Why(a.Points[i-1], a.Points[i], a.Points[i+1]) == guard.Free {
					least, arc, place = w, n, i
				}
			}
		}
		if arc < 0 {
			return out, count
		}
		q := out[arc].Points
		g.Drop(q[place-1], q[place], q[place+1])
		out[arc].Points = slices.Delete(q, place, place+1)
	}
}

// beside are rough arcs that lie close to each other, so that points stand in each other's way.
func beside(r *sample.Row) []arcs.Arc {
	var all []arcs.Arc
	for k := range 2 + r.Next(4) {
		var l []api.Point
		for i := range 4 + r.Next(25) {
			l = append(l, p(3*i+r.Next(3), 6*k+r.Next(10)))
		}
		all = append(all, arc(l...))
	}
	return all
}

// TestBySteps: P19.1 by its words, of coverages' arcs, and of any rows of points.
func TestBySteps(t *testing.T) {
	r := sample.New(25)
	went := 0
	for i := range 400 {
		var all []arcs.Arc
		if i%2 == 0 {
			all, _ = arcs.Cut(sample.Of(r, sample.Shape{Size: 2 + r.Next(5), Count: 1 + r.Next(4), Step: 9, Jitter: 2})...)
		} else {
			for range 1 + r.Next(4) {
				var l []api.Point
				for range r.Next(12) {
					l = append(l, p(r.Next(6), r.Next(6)))
				}
				all = append(all, arc(l...))
			}
		}
		if i%4 == 1 {
			all = beside(r)
		}
		lines := [][]int{nil, nil, {9, 21}, {3}}[r.Next(4)]
		tol := []int{0, 1, 5, 40, 200, api.MaxTol}[r.Next(6)]
		want, n := slow(lines, tol, all)
		got, count, err := Arcs(lines, tol, all...)
		if !arcs.Same(got, want) || count != n || err != api.OK {
			t.Fatal(lines, tol, all, got, want)
		}
		went += count
		if i%2 == 0 && Left(lines, tol, got...) != 0 {
			t.Fatal("left", lines, tol, all)
		}
	}
	if went < 1000 {
		t.Error("too few", went)
	}
}

// TestNet: P19.2.
func TestNet(t *testing.T) {
	two := []face.Face{{Rings: [][]api.Point{{p(0, 0), p(4, 1), p(8, 0), p(8, 8), p(0, 8)}}}, {Rings: [][]api.Point{box(8, 0, 20, 8)}}}
	n, _ := net.Of(two...)
	got, count, err := Net(nil, 9, n)
	two[0].Rings[0] = slices.Delete(two[0].Rings[0], 1, 2)
	want, _ := net.Of(two...)
	if !net.Same(got, want) || count != 1 || err != api.OK {
		t.Error(got, count, err)
	}
	bad := net.Copy(n)
	bad.Arcs[0].Left = 9
	for _, x := range []struct {
		n   net.Net
		tol int
		err api.Errno
	}{{bad, -1, api.ErrRange}, {bad, api.MaxTol + 1, api.ErrRange}, {bad, 0, api.ErrOrder}, {net.Net{Rings: [][][]int{{nil}}}, 0, api.ErrForm}, {net.Net{}, 5, api.OK}} {
		if got, count, err := Net(nil, x.tol, x.n); !net.Same(got, net.Net{}) || count != 0 || err != x.err {
			t.Error(x, got, count, err)
		}
	}
}

// part tells whether some of l's points, in their order, are the ring.
func part(ring, l []api.Point) bool {
	for begin := range l {
		i := 0
		for j := range l {
			if i < len(ring) && ring[i] == l[(begin+j)%len(l)] {
				i++
			}
		}
		if i == len(ring) {
			return true
		}
	}
	return false
}

// TestFollows: P19.3.
func TestFollows(t *testing.T) {
	r := sample.New(26)
	for i := range 300 {
		l := sample.Of(r, sample.Shape{Size: 2 + i%6, Count: 1 + i%4, Step: 9, Jitter: 2})
		n, err := net.Of(l...)
		if err != api.OK {
			t.Fatal(err)
		}
		lines := [][]int{nil, nil, {9, 21}}[r.Next(3)]
		tol := []int{0, 30, 200, api.MaxTol}[r.Next(4)]
		got, count, err := Net(lines, tol, n)
		if err != api.OK || net.Check(got) != api.OK || tol == 0 && (count != 0 || !net.Same(got, n)) || arcs.Edges(got.Arcs...)+count != arcs.Edges(n.Arcs...) {
			t.Fatal(l, tol, err)
		}
		faces, _ := net.Faces(got)
		before, _ := net.Faces(n)
		if cover.Valid(faces...) != api.OK || !cover.Alike(faces, before) {
			t.Fatal("alike", l, tol, lines)
		}
		for j := range faces {
			for k := range faces[j].Rings {
				if !part(faces[j].Rings[k], before[j].Rings[k]) {
					t.Fatal("points", l, tol)
				}
			}
		}
		if tol == api.MaxTol && lines == nil && Left(lines, tol, got.Arcs...) != 0 {
			t.Fatal("left", l)
		}
	}
}
