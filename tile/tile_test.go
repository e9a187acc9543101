package tile

import (
	"math"
	"slices"
	"testing"

	"graticule/api"
	"graticule/arcs"
	"graticule/face"
	"graticule/geom"
	"graticule/level"
	"graticule/lineclip"
	"graticule/mvt"
	"graticule/ring"
	"graticule/sample"
	"graticule/table"
	"graticule/value"
	"graticule/window"
)

func p(x, y int) api.Point { return api.Point{X: x, Y: y} }

func box(a, b, c, d int) []api.Point { return []api.Point{p(a, b), p(c, b), p(c, d), p(a, d)} }

func hole(a, b, c, d int) []api.Point { return ring.Turned(box(a, b, c, d)) }

func of(rings ...[]api.Point) face.Face { return face.Face{Rings: rings} }

func same(a, b [][]api.Point) bool { return slices.EqualFunc(a, b, slices.Equal[[]api.Point]) }

func number(key string, n int) table.Attr {
	return table.Attr{Key: key, Value: value.Value{Kind: value.Uint, N: n}}
}

// TestExample: P25.1.
func TestExample(t *testing.T) {
	l := []face.Face{{Rings: [][]api.Point{box(0, 0, 10, 10)}, Attrs: []table.Attr{number("a", 5)}}}
	all, _ := arcs.Cut(l...)
	got, err := Of(l, all, window.Tile{}, 1)
	want := mvt.Tile{Layers: []mvt.Layer{
		{Name: "faces", Features: []mvt.Feature{{ID: 1, Kind: geom.Polygon, Attrs: l[0].Attrs, Parts: [][]api.Point{box(0, 0, 10, 10)}}}},
		{Name: "arcs", Features: []mvt.Feature{{ID: 1, Kind: geom.Line, Attrs: []table.Attr{number("left", 0), number("right", 1)}, Parts: [][]api.Point{{p(0, 0), p(0, 10), p(10, 10), p(10, 0), p(0, 0)}}}}},
	}}
	if !mvt.Same(got, want) || err != api.OK || Empty(got) {
		t.Error(got, err)
	}
	if got, err = Of(nil, nil, window.Tile{}, 0); !Empty(got) || err != api.OK {
		t.Error("nothing", got, err)
	}
	got, _ = Of(l, all, window.Tile{}, 0)
	if !same(Lines(got, 0), [][]api.Point{{p(0, 10), p(10, 10), p(10, 0)}}) {
		t.Error("along the sides", got)
	}
	if got, err = Of(l, all, window.Tile{Z: 1, X: 1}, 0); !Empty(got) || err != api.OK {
		t.Error("elsewhere", got, err)
	}
}

// TestOf: P25.1.
func TestOf(t *testing.T) {
	bad := of(hole(0, 0, 5, 5))
	for _, x := range []struct {
		l      []face.Face
		at     window.Tile
		buffer int
		err    api.Errno
	}{
		{[]face.Face{bad}, window.Tile{Z: 5}, 0, api.ErrRange}, {[]face.Face{bad}, window.Tile{Z: 1, X: 2}, 0, api.ErrRange}, {[]face.Face{bad}, window.Tile{}, -1, api.ErrRange}, {[]face.Face{bad}, window.Tile{}, 2048, api.ErrRange},
		{[]face.Face{of(box(0, 0, 5, 5)), bad}, window.Tile{}, 0, api.ErrSide}, {[]face.Face{of(nil)}, window.Tile{}, 0, api.ErrSide},
	} {
		if got, err := Of(x.l, nil, x.at, x.buffer); err != x.err || !Empty(got) {
			t.Error(x, got, err)
		}
	}
	// Two exteriors, told between their holes; of the second one's holes one lies elsewhere.
	f := of(hole(4150, 50, 4160, 60), box(4097, 1, 8000, 8000), box(10, 10, 4090, 4090), hole(20, 20, 30, 30), hole(5000, 5000, 5010, 5010))
	got, err := Of([]face.Face{of(), f}, nil, window.Tile{Z: 1, X: 1}, 0)
	want := [][]api.Point{ring.First(ring.Moved(box(4097, 1, 8000, 4096), p(-4096, 0))), ring.First(ring.Moved(hole(4150, 50, 4160, 60), p(-4096, 0)))}
	if err != api.OK || !same(Rings(got, 1), want) || len(Rings(got, 0)) > 0 {
		t.Error(got, err)
	}
	got, _ = Of([]face.Face{f}, nil, window.Tile{Z: 1}, 100)
	want = [][]api.Point{ring.First(box(4097, 1, 4196, 4196)), ring.First(hole(4150, 50, 4160, 60)), ring.First(box(10, 10, 4090, 4090)), ring.First(hole(20, 20, 30, 30))}
	if !same(Rings(got, 0), want) {
		t.Error(got)
	}
	// A hole as great as its exterior, as far as the window shows them: nothing is left.
	around := []api.Point{p(0, 8500), p(8500, 8500), p(8500, 0), p(0, 0)}
	got, err = Of([]face.Face{of(box(0, 0, 9000, 9000), around)}, nil, window.Tile{Z: 1}, 0)
	if !Empty(got) || err != api.OK {
		t.Error("all is hole", got)
	}
}

// TestAsked: P25.2.
func TestAsked(t *testing.T) {
	attrs := func(l, r value.Value) []table.Attr {
		return []table.Attr{{Key: "left", Value: l}, {Key: "right", Value: r}}
	}
	yes, some := value.Value{Kind: value.Bool, N: 1}, value.Value{Kind: value.Uint, N: 8}
	line := [][]api.Point{{p(0, 0), p(1, 1)}}
	tile := mvt.Tile{Layers: []mvt.Layer{
		{Name: "faces", Features: []mvt.Feature{{ID: 3, Kind: 3, Attrs: []table.Attr{number("a", 1)}, Parts: [][]api.Point{box(0, 0, 9, 9), hole(3, 3, 5, 5)}}, {ID: 3, Kind: 3, Parts: [][]api.Point{box(0, 0, 1, 1)}}, {ID: 0, Kind: 3, Parts: [][]api.Point{box(0, 0, 2, 2)}}, {ID: math.MinInt, Parts: [][]api.Point{box(0, 0, 3, 3)}}}},
		{Name: "arcs", Features: []mvt.Feature{{ID: 1, Attrs: attrs(some, some), Parts: line}, {ID: 2, Attrs: attrs(some, yes), Parts: line}, {ID: 4, Attrs: attrs(yes, some)}, {ID: 5, Attrs: []table.Attr{number("left", 1)}}, {ID: 6, Attrs: []table.Attr{number("right", 2), number("left", 1)}}}},
		{Name: "faces", Features: []mvt.Feature{{ID: 9, Kind: 3, Parts: line}}}, {Name: "arcs", Features: []mvt.Feature{{ID: 9, Kind: 3, Parts: line}}},
	}}
	for n, want := range map[int][][]api.Point{2: {box(0, 0, 9, 9), hole(3, 3, 5, 5)}, -1: {box(0, 0, 2, 2)}, math.MaxInt: {box(0, 0, 3, 3)}, 8: nil, 0: nil, math.MinInt: nil} {
		if got := Rings(tile, n); !same(got, want) {
			t.Error(n, got)
		}
	}
	if got := Lines(tile, 0); !same(got, line) || len(Lines(tile, 8)) > 0 || len(Lines(mvt.Tile{}, 0)) > 0 {
		t.Error(got)
	}
	Rings(tile, 2)[0][0] = p(7, 7)
	Lines(tile, 0)[0][0] = p(7, 7)
	if got, ok := Attrs(tile, 2); !table.Same(got, []table.Attr{number("a", 1)}) || !ok || tile.Layers[0].Features[0].Parts[0][0] != p(0, 0) || line[0][0] != p(0, 0) {
		t.Error(got, ok)
	}
	if got, ok := Attrs(tile, 8); len(got) > 0 || ok {
		t.Error(got, ok)
	}
	if got, ok := Attrs(tile, -1); len(got) > 0 || !ok {
		t.Error(got, ok)
	}
	for n, want := range map[int][3]int{0: {8, 8, 1}, 1: {0, 0, 0}, 3: {0, 0, 0}, 4: {0, 0, 0}, 5: {1, 2, 1}, 8: {0, 0, 0}, -1: {0, 0, 0}} {
		if l, r, ok := Sides(tile, n); l != want[0] || r != want[1] || ok != (want[2] == 1) {
			t.Error(n, l, r, ok)
		}
	}
	for _, x := range []struct {
		face  int
		p     api.Point
		count int
		ok    bool
	}{{2, p(1, 1), 1, true}, {2, p(4, 4), 0, true}, {2, p(3, 4), 0, false}, {2, p(99, 4), 0, true}, {7, p(1, 1), 0, true}, {-1, p(1, 1), 1, true}, {2, p(api.Bound+1, 1), 0, false}} {
		if count, ok := Winding(tile, x.face, x.p); count != x.count || ok != x.ok {
			t.Error(x, count, ok)
		}
	}
	if !Empty(mvt.Tile{}) || Empty(tile) {
		t.Error("empty")
	}
}

// checkTile looks whether a tile is what P25.3 tells of it.
func checkTile(t *testing.T, r *sample.Row, at level.Level, all []arcs.Arc, where window.Tile) {
	got, err := Of(at.Faces, all, where, at.Buffer)
	if err != api.OK || mvt.Check(got) != api.OK {
		t.Fatal(at, where, err, mvt.Check(got))
	}
	for _, l := range got.Layers {
		for _, f := range l.Features {
			for _, q := range slices.Concat(f.Parts...) {
				if min(q.X, q.Y) < -at.Buffer || max(q.X, q.Y) > api.Extent+at.Buffer {
					t.Fatal("out of the window", at, where, q)
				}
			}
		}
	}
	w, _ := window.Window(where, at.Buffer)
	shows := false
	for i, a := range all {
		shows = shows || lineclip.Meets(a.Points, w)
		if lineclip.Meets(a.Points, w) != (len(Lines(got, i)) > 0) {
			t.Fatal("arc", at, where, i)
		}
	}
	for range 30 {
		q := p(w.Low.X+1+r.Next(w.High.X-w.Low.X-1), w.Low.Y+1+r.Next(w.High.Y-w.Low.Y-1))
		for i, f := range at.Faces {
			count, ok := face.Winding(f, q)
			told, is := Winding(got, i, window.Local(where, q)[0])
			shows = shows || count > 0
			if ok && (!is || told != count) {
				t.Fatal("round", at, where, i, q, count, told)
			}
		}
	}
	if shows && Empty(got) {
		t.Fatal("empty", at, where)
	}
}

// TestFollows: P25.3.
func TestFollows(t *testing.T) {
	r := sample.New(32)
	present := 0
	for i := range 80 {
		shape := sample.Shape{Size: 2 + i%5, Count: 1 + i%4, Step: 500 + r.Next(9000), Low: p(9000, 3000)}
		shape.Jitter = shape.Step / 5
		l := sample.Of(r, shape)
		at, err := level.Of(l, r.Next(4), []int{0, 64, 2047}[i%3])
		if err != api.OK || at.Status != level.Present {
			continue
		}
		all, err := arcs.Cut(at.Faces...)
		if err != api.OK {
			t.Fatal(err)
		}
		present++
		for _, where := range window.All(at.Zoom) {
			checkTile(t, r, at, all, where)
		}
	}
	if present < 30 {
		t.Error("too few", present)
	}
}
