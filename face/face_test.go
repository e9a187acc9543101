package face

import (
	"slices"
	"testing"

	"graticule/api"
	"graticule/ring"
	"graticule/table"
	"graticule/value"
)

func p(x, y int) api.Point { return api.Point{X: x, Y: y} }

// box is a ring to the left around a box.
func box(a, b, c, d int) []api.Point { return []api.Point{p(a, b), p(c, b), p(c, d), p(a, d)} }

// hole is one to the right.
func hole(a, b, c, d int) []api.Point { return ring.Turned(box(a, b, c, d)) }

func of(rings ...[]api.Point) Face { return Face{Rings: rings} }

func attr(key string, n int) table.Attr {
	return table.Attr{Key: key, Value: value.Value{Kind: value.Uint, N: n}}
}

// TestCheck: P12.1.
func TestCheck(t *testing.T) {
	bad := Face{[][]api.Point{box(0, 0, 1, 1)}, []table.Attr{attr("9", 1)}}
	far := of(box(0, 0, 65537, 1))
	row := make([]api.Point, 512)
	for _, x := range []struct {
		l   []Face
		err api.Errno
	}{
		{nil, api.OK}, {[]Face{of()}, api.OK}, {[]Face{of(box(0, 0, 65536, 65536))}, api.OK}, {make([]Face, 32), api.OK}, {[]Face{of(make([][]api.Point, 64)...)}, api.OK}, {[]Face{of(row)}, api.OK},
		{make([]Face, 33), api.ErrMany}, {[]Face{of(make([][]api.Point, 60)...), of(make([][]api.Point, 5)...)}, api.ErrMany}, {[]Face{of(row), of([]api.Point{p(-1, 0)}), bad}, api.ErrMany},
		{[]Face{bad, far}, api.ErrRange}, {[]Face{of(box(-1, 0, 1, 1))}, api.ErrRange}, {[]Face{of(box(0, -1, 1, 1))}, api.ErrRange}, {[]Face{of(box(0, 0, 1, 65537))}, api.ErrRange}, {[]Face{of(nil, []api.Point{p(0, 0), p(0, -1)})}, api.ErrRange},
		{[]Face{of(), bad}, api.ErrText}, {[]Face{{nil, []table.Attr{attr("a", -1)}}, bad}, api.ErrRange}, {[]Face{{nil, make([]table.Attr, 9)}}, api.ErrMany}, {[]Face{{nil, []table.Attr{attr("a", 1), attr("a", 1)}}}, api.ErrTwice},
	} {
		if err := Check(x.l...); err != x.err {
			t.Error(x, err)
		}
	}
	if r, n := Count(of(box(0, 0, 9, 9), hole(1, 1, 2, 2)), of(nil, []api.Point{p(0, 0)})); r != 4 || n != 9 {
		t.Error("count", r, n)
	}
	if r, n := Count(of(box(0, 0, 9, 9), hole(1, 1, 2, 2))); r != 2 || n != 8 {
		t.Error("the example", r, n)
	}
	if r, n := Count(); r != 0 || n != 0 {
		t.Error("none")
	}
}

// TestSides: P12.2.
func TestSides(t *testing.T) {
	got := Sides(of(nil, []api.Point{p(1, 1)}), of([]api.Point{p(0, 0), p(2, 0), p(0, 2)}, []api.Point{p(5, 5), p(6, 6)}))
	want := []Side{{0, 1, p(1, 1), p(1, 1)}, {1, 0, p(0, 0), p(2, 0)}, {1, 0, p(2, 0), p(0, 2)}, {1, 0, p(0, 2), p(0, 0)}, {1, 1, p(5, 5), p(6, 6)}, {1, 1, p(6, 6), p(5, 5)}}
	if !slices.Equal(got, want) || len(Sides()) != 0 {
		t.Error(got)
	}
	f := of(box(0, 0, 9, 9), hole(2, 2, 4, 4), box(20, 0, 29, 9))
	for _, x := range []struct {
		f  Face
		p  api.Point
		n  int
		ok bool
	}{
		{f, p(1, 1), 1, true}, {f, p(3, 3), 0, true}, {f, p(22, 3), 1, true}, {f, p(50, 3), 0, true}, {f, p(2, 3), 0, false}, {f, p(0, 0), 0, false}, {f, p(api.Bound+1, 0), 0, false},
		{of(), p(0, 0), 0, true}, {of(box(0, 0, 9, 9), box(0, 0, 9, 9)), p(1, 1), 2, true}, {of(box(0, 0, 9, 9), []api.Point{p(api.Bound+1, 0)}), p(1, 1), 0, false},
	} {
		if n, ok := Winding(x.f, x.p); n != x.n || ok != x.ok {
			t.Error(x, n, ok)
		}
	}
}

// TestNest: P12.3.
func TestNest(t *testing.T) {
	for _, x := range []struct {
		f  Face
		l  []int
		ok bool
	}{
		{of(box(0, 0, 9, 9), hole(2, 2, 4, 4)), []int{-1, 0}, true}, {of(hole(2, 2, 4, 4), box(0, 0, 9, 9)), []int{1, -1}, true}, {of(), nil, true},
		{of(box(0, 0, 99, 99), hole(1, 1, 90, 90), box(5, 5, 50, 50), hole(6, 6, 9, 9)), []int{-1, 0, -1, 2}, true},
		{of(box(0, 0, 9, 9), box(0, 0, 9, 9), hole(2, 2, 4, 4)), []int{-1, -1, 0}, true},
		{of(box(0, 0, 9, 9), hole(0, 0, 4, 4)), nil, false}, // the hole's first edge lies on the exterior's: what is beside it is without
		{of(box(0, 0, 9, 9), hole(20, 20, 24, 24)), nil, false}, {of(hole(2, 2, 4, 4)), nil, false},
		{of(box(0, 0, 9, 9), []api.Point{p(1, 1), p(2, 2), p(3, 3)}), nil, false}, {of(nil), nil, false}, {of(box(0, 0, 9, 9), box(0, 0, api.Bound+1, 9)), nil, false},
		{of(box(0, 0, 9, 9), box(3, 1, 3, 9)), nil, false},
		{of(box(0, 0, 20, 20), hole(4, 2, 8, 8), []api.Point{p(2, 4), p(6, 4), p(6, 3)}), []int{-1, 0, 0}, true}, // the first hole has the middle of the second one's first edge: only exteriors must tell
		{of(box(0, 0, 9, 9), box(3, 0, 20, 5), hole(1, 2, 5, 4)), []int{-1, -1, 0}, true},
		{of(box(0, 0, 9, 9), box(3, 0, 20, 5), []api.Point{p(1, 2), p(5, 2), p(1, 1)}), nil, false}, // the second exterior has the middle of the first edge
	} {
		if l, ok := Nest(x.f); !slices.Equal(l, x.l) || ok != x.ok {
			t.Error(x, l, ok)
		}
	}
}

// TestCopy: P12.4.
func TestCopy(t *testing.T) {
	l := []Face{{[][]api.Point{box(0, 0, 9, 9), nil}, []table.Attr{attr("a", 1)}}, of()}
	got := Copy(l...)
	if !Same(l, got) || len(Copy()) != 0 {
		t.Error(got)
	}
	got[0].Rings[0][0] = p(7, 7)
	got[0].Attrs[0].Key = "b"
	got[0].Rings[1] = box(1, 1, 2, 2)
	if l[0].Rings[0][0] != p(0, 0) || l[0].Attrs[0].Key != "a" || len(l[0].Rings[1]) != 0 {
		t.Error("shared")
	}
	one := func() []Face { return Copy(l...) }
	for i, change := range []func(l []Face) []Face{
		func(l []Face) []Face { return l[:1] },
		func(l []Face) []Face { l[0].Rings[0][3] = p(0, 8); return l },
		func(l []Face) []Face { l[0].Rings[0] = l[0].Rings[0][:3]; return l },
		func(l []Face) []Face { l[0].Rings = l[0].Rings[:1]; return l },
		func(l []Face) []Face { l[0].Attrs = nil; return l },
		func(l []Face) []Face { l[1].Attrs = l[0].Attrs; return l },
	} {
		if Same(l, change(one())) || Same(change(one()), l) {
			t.Error(i)
		}
	}
	if !Same(nil, []Face{}) || !Same([]Face{{Rings: [][]api.Point{}}}, []Face{{}}) {
		t.Error("nothing")
	}
}
