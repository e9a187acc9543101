package net

import (
	"math"
	"slices"
	"testing"

	"graticule/api"
	"graticule/arcs"
	"graticule/cover"
	"graticule/face"
	"graticule/ring"
	"graticule/sample"
	"graticule/table"
)

func p(x, y int) api.Point { return api.Point{X: x, Y: y} }

func box(a, b, c, d int) []api.Point { return []api.Point{p(a, b), p(c, b), p(c, d), p(a, d)} }

func of(rings ...[]api.Point) face.Face { return face.Face{Rings: rings} }

func arc(left, right int, l ...api.Point) arcs.Arc {
	return arcs.Arc{Points: l, Left: left, Right: right}
}

// two is two boxes with a common edge, and their net.
func two() ([]face.Face, Net) {
	return []face.Face{of(box(0, 0, 4, 4)), of(box(4, 0, 8, 4))}, Net{
		[]arcs.Arc{arc(0, 1, p(4, 0), p(0, 0), p(0, 4), p(4, 4)), arc(1, 2, p(4, 0), p(4, 4)), arc(2, 0, p(4, 0), p(8, 0), p(8, 4), p(4, 4))},
		[][][]int{{{-1, 1}}, {{-2, 2}}},
	}
}

// TestOf: P15.1.
func TestOf(t *testing.T) {
	l, n := two()
	if got, err := Of(l...); !Same(got, n) || err != api.OK {
		t.Error("the example", got, err)
	}
	if got, err := Of(); !Same(got, Net{}) || err != api.OK {
		t.Error("nothing", got, err)
	}
	if got, err := Of(of(), of(box(0, 0, 4, 4))); err != api.OK || !Same(got, Net{[]arcs.Arc{arc(0, 2, p(0, 0), p(0, 4), p(4, 4), p(4, 0), p(0, 0))}, [][][]int{nil, {{-1}}}}) {
		t.Error("one", got, err)
	}
	for _, x := range []struct {
		f   face.Face
		err api.Errno
	}{{of(nil), api.ErrRing}, {of(box(0, 0, 4, 4), box(2, 2, 6, 6)), api.ErrMatch}, {of(box(0, 0, 4, 4), box(0, 0, 4, 4)), api.ErrTwice}, {of(ring.Turned(box(0, 0, 4, 4))), api.ErrSide}} {
		if got, err := Of(x.f); err != x.err || !Same(got, Net{}) {
			t.Error(x, got, err)
		}
	}
}

// TestFaces: P15.2.
func TestFaces(t *testing.T) {
	l, n := two()
	got, err := Faces(n)
	want := []face.Face{of([]api.Point{p(4, 4), p(0, 4), p(0, 0), p(4, 0)}), of([]api.Point{p(4, 4), p(4, 0), p(8, 0), p(8, 4)})}
	if !face.Same(got, want) || err != api.OK {
		t.Error(l, got, err)
	}
	got[0].Rings[0][0] = p(9, 9)
	if n.Arcs[0].Points[3] != p(4, 4) {
		t.Error("shared")
	}
	short := append(slices.Clone(n.Arcs), arc(0, 1), arc(0, 1, p(4, 4)))
	for _, x := range []struct {
		rings [][][]int
		err   api.Errno
	}{
		{[][][]int{{nil}, {{9}}}, api.ErrForm}, {[][][]int{{{-1, 1}, {}}}, api.ErrForm},
		{[][][]int{{{5}, {}}}, api.ErrRange}, {[][][]int{{{-6}, {}}}, api.ErrRange}, {[][][]int{{{math.MinInt}}}, api.ErrRange}, {[][][]int{{{math.MaxInt}}}, api.ErrRange}, {[][][]int{{{-1, 9}}}, api.ErrRange},
		{[][][]int{{{3, 9}}}, api.ErrForm}, {[][][]int{{{-1, 3}}}, api.ErrForm}, {[][][]int{{{0, 4}}}, api.ErrForm}, {[][][]int{{{-5}}}, api.ErrForm},
		{[][][]int{{{0, 1}, {9}}}, api.ErrForm}, {[][][]int{{{0, 1, 9}}}, api.ErrForm}, {[][][]int{{{0}, {9}}}, api.ErrForm}, {[][][]int{{{0, -2, 2}}}, api.ErrForm},
	} {
		m := Net{short, x.rings}
		if got, err := Faces(m); err != x.err || len(got) > 0 {
			t.Error(x, got, err)
		}
		if err := Check(m); err != x.err {
			t.Error("check", x, err)
		}
	}
	if got, err := Faces(Net{short, [][][]int{nil, {}}}); len(got) != 2 || err != api.OK {
		t.Error("no rings", got, err)
	}
	if got, err := Faces(Net{[]arcs.Arc{arc(0, 0, p(1, 1), p(1, 1))}, [][][]int{{{0}, {0, 0}}}}); err != api.OK || !face.Same(got, []face.Face{of([]api.Point{p(1, 1)}, []api.Point{p(1, 1), p(1, 1)})}) {
		t.Error("a point", got, err)
	}
}

// TestCheck: P15.2.
func TestCheck(t *testing.T) {
	_, n := two()
	if Check(n) != api.OK || Check(Net{}) != api.OK {
		t.Error("right")
	}
	for i, x := range []struct {
		change func(n *Net)
		err    api.Errno
	}{
		{func(n *Net) { n.Arcs = append(n.Arcs, arc(0, 0)) }, api.ErrOrder},
		{func(n *Net) { n.Arcs[1].Left = 2 }, api.ErrOrder},
		{func(n *Net) { n.Rings[0][0] = []int{1, -1} }, api.ErrOrder},
		{func(n *Net) {
			n.Arcs[1] = arc(2, 1, p(4, 4), p(4, 0))
			n.Rings = [][][]int{{{-1, -2}}, {{1, 2}}}
		}, api.ErrOrder},
		{func(n *Net) {
			n.Arcs[0], n.Arcs[1] = n.Arcs[1], n.Arcs[0]
			n.Rings = [][][]int{{{0, -2}}, {{-1, 2}}}
		}, api.ErrOrder},
		{func(n *Net) { n.Rings[1] = n.Rings[0] }, api.ErrTwice},
		{func(n *Net) { n.Rings[0][0] = []int{-2, 0} }, api.ErrTwice},
		{func(n *Net) { n.Rings = [][][]int{{{-2, 0}}} }, api.ErrSide},
		{func(n *Net) { n.Arcs[0].Points[1] = p(4, 2) }, api.ErrRing},
		{func(n *Net) { n.Arcs[0].Points[1] = p(9, 9) }, api.ErrMatch},
		{func(n *Net) { n.Arcs[0].Points[1] = p(api.Bound+1, 9) }, api.ErrRing},
		{func(n *Net) {
			n.Arcs = append(n.Arcs, arc(0, 0, p(7, 1), p(9, 1), p(9, 9), p(7, 1)))
			n.Rings[0] = append(n.Rings[0], []int{3})
		}, api.ErrMatch},
	} {
		m := Copy(n)
		x.change(&m)
		if err := Check(m); err != x.err {
			t.Error(i, err)
		}
	}
}

// TestGreat: P15.2, of a net whose rings tell one arc again and again.
func TestGreat(t *testing.T) {
	n := Net{[]arcs.Arc{arc(0, 1, append(make([]api.Point, 60000), p(0, 0))...)}, [][][]int{{make([]int, 60000)}}}
	if err := Check(n); err != api.ErrMany {
		t.Error(err)
	}
}

// TestNear: P15.3.
func TestNear(t *testing.T) {
	_, n := two()
	for i, x := range []struct {
		n    Net
		near [][]int
	}{
		{Net{}, nil}, {n, [][]int{{cover.None, 1}, {cover.None, 0}}}, {Net{nil, make([][][]int, 2)}, [][]int{nil, nil}},
		{Net{[]arcs.Arc{arc(1, 1), arc(0, 0), arc(2, 1), arc(1, 2)}, make([][][]int, 2)}, [][]int{{0, 1}, {0}}},
		{Net{[]arcs.Arc{arc(3, 1), arc(1, -1), arc(math.MinInt, 2), arc(2, math.MaxInt), arc(0, 2)}, make([][][]int, 2)}, [][]int{nil, {cover.None}}},
	} {
		if got := Near(x.n); !slices.EqualFunc(got, x.near, slices.Equal[[]int]) {
			t.Error(i, got)
		}
	}
	if got := Points(n); !slices.Equal(got, []api.Point{p(0, 0), p(0, 4), p(4, 0), p(4, 4), p(8, 0), p(8, 4)}) || len(Points(Net{})) != 0 {
		t.Error("points", got)
	}
}

// TestCopy: P15.3.
func TestCopy(t *testing.T) {
	_, n := two()
	n.Rings = append(n.Rings, nil, [][]int{nil})
	if !Same(n, Copy(n)) || !Same(Net{}, Copy(Net{})) {
		t.Error("copy")
	}
	for i, change := range []func(n *Net){
		func(n *Net) { n.Arcs[0].Points[0] = p(9, 9) }, func(n *Net) { n.Arcs[0].Right = 9 }, func(n *Net) { n.Arcs = n.Arcs[:2] }, func(n *Net) { n.Rings = n.Rings[:3] },
		func(n *Net) { n.Rings[0][0][1] = 0 }, func(n *Net) { n.Rings[3] = nil }, func(n *Net) { n.Rings[1][0] = n.Rings[1][0][:1] },
	} {
		m := Copy(n)
		change(&m)
		if Same(n, m) || Same(m, n) {
			t.Error(i)
		}
	}
	if _, clean := two(); !Same(Net{n.Arcs, n.Rings[:2]}, clean) {
		t.Error("shared")
	}
}

// TestFollows: P15.1 by its words, and P15.4.
func TestFollows(t *testing.T) {
	r := sample.New(21)
	for i := range 200 {
		l := sample.Of(r, sample.Shape{Size: 2 + i%5, Count: 1 + i%4, Step: 9, Plain: i%2 == 0})
		n, err := Of(l...)
		if err != api.OK || Check(n) != api.OK {
			t.Fatal(l, err)
		}
		if all, _ := arcs.Cut(l...); !arcs.Same(all, n.Arcs) {
			t.Fatal("arcs", l)
		}
		got, err := Faces(n)
		if err != api.OK || len(got) != len(l) {
			t.Fatal(l, err)
		}
		for j := range l {
			if len(got[j].Rings) != len(l[j].Rings) || !table.Same(got[j].Attrs, nil) {
				t.Fatal("rings", l)
			}
			for k := range l[j].Rings {
				if !ring.Alike(l[j].Rings[k], got[j].Rings[k]) {
					t.Fatal("unlike", l)
				}
				for _, ref := range n.Rings[j][k] {
					if max(ref, -1-ref) < max(n.Rings[j][k][0], -1-n.Rings[j][k][0]) {
						t.Fatal("the least first", l)
					}
				}
			}
		}
		if !slices.EqualFunc(Near(n), cover.Near(l...), slices.Equal[[]int]) {
			t.Fatal("near", l)
		}
	}
}
