package query

import (
	"bytes"
	"math"
	"slices"
	"testing"

	"graticule/api"
	"graticule/build"
	"graticule/cover"
	"graticule/face"
	"graticule/level"
	"graticule/mvt"
	"graticule/net"
	"graticule/pack"
	"graticule/ring"
	"graticule/sample"
	"graticule/snap"
	"graticule/table"
	"graticule/tile"
	"graticule/value"
	"graticule/window"
)

func p(x, y int) api.Point { return api.Point{X: x, Y: y} }

func box(a, b, c, d int) []api.Point { return []api.Point{p(a, b), p(c, b), p(c, d), p(a, d)} }

func of(rings ...[]api.Point) face.Face { return face.Face{Rings: rings} }

// must is the store of an input.
func must(t *testing.T, in build.Input) *Store {
	b, err := build.Build(in)
	s, wrong := Open(b)
	if err != api.OK || wrong != api.OK {
		t.Fatal(in, err, wrong)
	}
	return s
}

// two is two boxes with a common edge, and one with a hole, elsewhere; the level 0 has collapsed, for a small one.
func two() build.Input {
	l := []face.Face{of(box(0, 0, 40000, 40000)), of(box(40000, 0, 60000, 40000)), of(box(100, 50000, 9000, 60000), ring.Turned(box(4000, 54000, 6000, 56000))), of(box(65530, 65530, 65534, 65534))}
	l[1].Attrs = []table.Attr{{Key: "a", Value: value.Value{Kind: value.Bool, N: 1}}}
	return build.Input{Faces: l, Buffer: 64, Tol: 3, Zooms: []int{3, 0, 1}}
}

// TestExample: P29.4.
func TestExample(t *testing.T) {
	s := must(t, build.Input{Faces: []face.Face{of(box(0, 0, 40000, 40000))}, Zooms: []int{1}})
	for _, x := range []struct {
		p      api.Point
		d, got int
		err    api.Errno
	}{
		{p(5, 5), 1, 0, api.OK}, {p(5, 0), 1, cover.Border, api.OK}, {p(9, 9), 2, 0, api.OK}, {p(8000, 8000), 1, cover.None, api.OK}, {p(10001, 9), 2, cover.None, api.OK}, {p(10000, 9), 2, cover.Border, api.OK}, {p(9999, 9), 2, 0, api.OK}, {p(8192*64, 0), 64, cover.None, api.OK}, {p(0, 8192*64), 64, cover.None, api.OK}, {p(0, 0), 64, cover.Border, api.OK}, {p(0, 5), 1, cover.Border, api.OK}, {p(5, -1), 1, 0, api.ErrRange}, {p(8193, 5), 1, 0, api.ErrRange},
		{p(5, 5), 0, 0, api.ErrRange}, {p(5, 5), 65, 0, api.ErrRange}, {p(5, 5), -1, 0, api.ErrRange}, {p(-1, 5), 1, 0, api.ErrRange}, {p(5, 8193), 1, 0, api.ErrRange}, {p(8192*64+1, 0), 64, 0, api.ErrRange}, {p(math.MaxInt, 0), 64, 0, api.ErrRange},
	} {
		if got, err := s.Locate(1, x.p, x.d); got != x.got || err != x.err {
			t.Error(x, got, err)
		}
	}
}

// TestErrors: P29.2 and P29.4, of levels.
func TestErrors(t *testing.T) {
	s := must(t, two())
	var none *Store
	for _, x := range []struct {
		s   *Store
		z   int
		err api.Errno
	}{{s, -1, api.ErrRange}, {s, 5, api.ErrRange}, {s, 2, api.ErrNone}, {s, 4, api.ErrNone}, {s, 0, api.ErrCollapsed}, {none, 3, api.ErrArg}, {none, 9, api.ErrArg}} {
		faces, e1 := x.s.Faces(x.z)
		b, e2 := x.s.Get(window.Tile{Z: x.z})
		shown, e3 := x.s.Tile(window.Tile{Z: x.z})
		at, e4 := x.s.Locate(x.z, p(-1, 0), 1)
		near, e5 := x.s.Neighbors(x.z, 99)
		area, e6 := x.s.Area(x.z, 99)
		border, e7 := x.s.Border(x.z, 99, 99)
		tiles, e8 := x.s.Tiles(x.z)
		n, m, e9 := x.s.Size(x.z)
		for i, e := range []api.Errno{e1, e2, e3, e4, e5, e6, e7, e8, e9} {
			if e != x.err {
				t.Error(x.z, i, e)
			}
		}
		if len(faces)+len(b)+len(shown.Layers)+at+len(near)+area+len(border)+len(tiles)+n+m != 0 {
			t.Error("not nothing", x.z)
		}
	}
	if _, err := none.Locate(1, p(0, 0), 0); err != api.ErrArg {
		t.Error("nil first", err)
	}
	if _, err := s.Locate(9, p(0, 0), 0); err != api.ErrRange {
		t.Error("d first", err)
	}
	if _, err := s.Locate(2, p(0, 0), 0); err != api.ErrRange {
		t.Error("d ahead of the level", err)
	}
	for _, x := range []window.Tile{{Z: 0, X: 1}, {Z: 2, X: 4}, {Z: 5}} {
		b, err := s.Get(x)
		shown, wrong := s.Tile(x)
		if err != api.ErrRange || wrong != api.ErrRange || len(b)+len(shown.Layers) > 0 {
			t.Error("no tile", x)
		}
	}
	if len(none.Levels()) > 0 || none.Status(3) != 0 || none.Verify() != api.ErrArg || !build.Same(none.Head(), build.Head{}) {
		t.Error("nil")
	}
}

// TestAnswers: P29.2 to P29.5.
func TestAnswers(t *testing.T) {
	in := two()
	s := must(t, in)
	if !slices.Equal(s.Levels(), []int{0, 1, 3}) || s.Status(0) != level.Collapsed || s.Status(3) != level.Present || s.Status(2) != 0 || s.Status(9) != 0 || s.Verify() != api.OK {
		t.Error("levels", s.Levels())
	}
	states, _ := build.Levels(in)
	faces, err := s.Faces(3)
	want, _ := net.Faces(states[2].Net)
	want[1].Attrs = in.Faces[1].Attrs
	if !face.Same(faces, want) || err != api.OK {
		t.Error("faces", faces, err)
	}
	head := s.Head()
	if head.Buffer != 64 || head.Tol != 3 || len(head.Levels) != 3 || !net.Same(head.Levels[2].Net, states[2].Net) || !table.Same(head.Attrs[1], in.Faces[1].Attrs) {
		t.Error("head", head)
	}
	faces[1].Rings[0][0], faces[1].Attrs[0].Key = p(9, 9), "z"
	head.Attrs[1][0].Key, head.Levels[2].Net.Arcs[0].Points[0], head.Levels[2].Net.Rings[0][0][0] = "z", p(9, 9), 77
	if again, _ := s.Faces(3); !face.Same(again, want) || s.Verify() != api.OK || s.Head().Attrs[1][0].Key != "a" || !net.Same(s.Head().Levels[2].Net, states[2].Net) {
		t.Error("shared")
	}
	for i, near := range [][]int{{cover.None, 1}, {cover.None, 0}, {cover.None}, {cover.None}} {
		if got, err := s.Neighbors(3, i); !slices.Equal(got, near) || err != api.OK {
			t.Error("near", i, got, err)
		}
	}
	for i, area := range []int{2 * 20000 * 20000, 2 * 10000 * 20000, 2 * (4450*5000 - 1000*1000), 8} {
		if got, err := s.Area(3, i); got != area || err != api.OK {
			t.Error("area", i, got, err)
		}
	}
	if n, m, err := s.Size(3); n != len(states[2].Net.Arcs) || m != len(net.Points(states[2].Net)) || err != api.OK {
		t.Error("size", n, m, err)
	}
	for _, i := range []int{-1, 4, math.MinInt, math.MaxInt} {
		near, e1 := s.Neighbors(3, i)
		area, e2 := s.Area(3, i)
		border, e3 := s.Border(3, i, 0)
		if len(near)+area+len(border) != 0 || e1 != api.ErrRange || e2 != api.ErrRange || e3 != api.ErrRange {
			t.Error("no face", i)
		}
	}
}

// TestBorder: P29.4.
func TestBorder(t *testing.T) {
	s := must(t, two())
	arcs := s.Head().Levels[2].Net.Arcs
	for _, x := range []struct {
		face, other, n int
		err            api.Errno
	}{{0, 1, 1, api.OK}, {1, 0, 1, api.OK}, {0, cover.None, 1, api.OK}, {0, 2, 0, api.OK}, {2, cover.None, 2, api.OK}, {0, 0, 0, api.ErrRange}, {0, 4, 0, api.ErrRange}, {0, -2, 0, api.ErrRange}, {cover.None, 0, 0, api.ErrRange}, {cover.None, cover.None, 0, api.ErrRange}} {
		got, err := s.Border(3, x.face, x.other)
		if len(got) != x.n || err != x.err || !slices.IsSorted(got) {
			t.Error(x, got, err)
		}
		for _, i := range got {
			if l, r := arcs[i].Left-1, arcs[i].Right-1; min(l, r) != min(x.face, x.other) || max(l, r) != max(x.face, x.other) {
				t.Error(x, i)
			}
		}
	}
}

// TestTiles: P29.3 and P29.4.
func TestTiles(t *testing.T) {
	in := two()
	s := must(t, in)
	b, _ := build.Build(in)
	archive, _ := pack.Open(b)
	var want []window.Tile
	for _, e := range archive.Entries() {
		if e.Tile.Z == 3 {
			want = append(want, e.Tile)
		}
	}
	got, err := s.Tiles(3)
	if !slices.Equal(got, want) || err != api.OK || len(want) == 0 || len(want) == 64 {
		t.Error(got, err)
	}
	for _, x := range window.All(3) {
		entry, _ := archive.Get(x)
		b, err := s.Get(x)
		shown, wrong := s.Tile(x)
		decoded, _ := mvt.Decode(entry)
		if !bytes.Equal(b, entry) || err != api.OK || wrong != api.OK || !mvt.Same(shown, decoded) {
			t.Error(x, err, wrong)
		}
	}
}

// TestOpen: P29.1 and P29.5.
func TestOpen(t *testing.T) {
	in := two()
	b, _ := build.Build(in)
	archive, _ := pack.Open(b)
	head, _ := build.Read(archive.Head())
	entries := archive.Entries()
	write := func(change func(h *build.Head), l []pack.Entry) []byte {
		h, _ := build.Read(archive.Head())
		change(&h)
		told, err := build.Bytes(h)
		if err != api.OK {
			t.Fatal(err)
		}
		out, _ := pack.Write(told, l...)
		return out
	}
	same := func(h *build.Head) {}
	swap := slices.Clone(entries)
	swap[0].Bytes, swap[len(swap)-1].Bytes = swap[len(swap)-1].Bytes, swap[0].Bytes
	wrong := slices.Clone(entries)
	wrong[2].Bytes = []byte{26, 0}
	bad, _ := pack.Write([]byte{8})
	first := window.Tile{Z: 0}
	for _, x := range []struct {
		name        string
		b           []byte
		err, verify api.Errno
	}{
		{"right", b, api.OK, api.OK}, {"the same", write(same, entries), api.OK, api.OK}, {"nothing", nil, api.ErrMagic, 0}, {"by hand", []byte("GRT1\x04\x08\x00\x10\x00\x00\x00"), api.OK, api.OK}, {"no sign 1", []byte("GRT\x01\x04\x08\x00\x10\x00\x00\x00"), api.ErrMagic, 0}, {"cut off", b[:len(b)-1], api.ErrEnd, 0}, {"a head", bad, api.ErrEnd, 0},
		{"a net", write(func(h *build.Head) { h.Levels[2].Net.Arcs[0].Left = 9 }, entries), api.ErrOrder, 0}, {"a net's faces", write(func(h *build.Head) { h.Levels[1].Net.Rings[3][0] = nil }, wrong), api.ErrForm, 0},
		{"a collapsed level's tile", write(same, append([]pack.Entry{{Tile: first}}, wrong...)), api.ErrNone, 0}, {"another level's tile", write(same, append([]pack.Entry{{Tile: window.Tile{Z: 2}}}, entries...)), api.ErrNone, 0}, {"a tile's bytes", write(same, wrong), api.ErrNone, 0},
		{"one less", write(same, entries[1:]), api.OK, api.ErrMatch}, {"none", write(same, nil), api.OK, api.ErrMatch}, {"changed for one another", write(same, swap), api.OK, api.ErrMatch}, {"one more", write(same, append([]pack.Entry{{Tile: window.Tile{Z: 3, X: 7, Y: 6}}}, entries...)), api.OK, api.ErrMatch},
		{"another buffer", write(func(h *build.Head) { h.Buffer = 3 }, entries), api.OK, api.ErrMatch}, {"another tolerance", write(func(h *build.Head) { h.Tol = 9 }, entries), api.OK, api.OK}, {"other attributes", write(func(h *build.Head) { h.Attrs[1] = nil }, entries), api.OK, api.ErrMatch},
	} {
		s, err := Open(x.b)
		if err != x.err || (s == nil) != (err != api.OK) || s != nil && s.Verify() != x.verify {
			t.Error(x.name, err)
		}
	}
	empty := must(t, build.Input{})
	if len(empty.Levels()) > 0 || empty.Verify() != api.OK || !build.Same(empty.Head(), build.Head{}) || len(head.Levels) != 3 {
		t.Error("nothing")
	}
	given := bytes.Clone(b)
	s, _ := Open(given)
	clear(given)
	if s.Verify() != api.OK {
		t.Error("kept what was handed in")
	}
}

// TestFar: a store may have points that are too far, when they are made greater.
func TestFar(t *testing.T) {
	n, _ := net.Of(of(box(0, 0, api.Bound, api.Bound)))
	told, err := build.Bytes(build.Head{Attrs: make([][]table.Attr, 1), Levels: []build.State{{Zoom: 1, Status: level.Present, Net: n}}})
	b, _ := pack.Write(told)
	s, wrong := Open(b)
	if err != api.OK || wrong != api.OK {
		t.Fatal(err, wrong)
	}
	for d, want := range map[int]int{1: 0, 2: cover.None} {
		if got, err := s.Locate(1, p(5, 5), d); got != want || err != api.OK {
			t.Error(d, got, err)
		}
	}
}

// TestFollows: P29.6.
func TestFollows(t *testing.T) {
	r := sample.New(36)
	present := 0
	for i := range 60 {
		shape := sample.Shape{Size: 2 + i%5, Count: 1 + i%4, Step: 500 + r.Next(9000), Low: p(9000, 3000)}
		shape.Jitter = shape.Step / 5
		in := build.Input{Faces: sample.Of(r, shape), Buffer: []int{0, 64, 2047}[i%3], Tol: []int{0, 500, api.MaxTol}[r.Next(3)], Zooms: []int{3, 0, 1}}
		if cover.Check(in.Faces...) != api.OK {
			continue
		}
		s := must(t, in)
		if s.Verify() != api.OK {
			t.Fatal("verify", in)
		}
		near := cover.Near(in.Faces...)
		for _, z := range s.Levels() {
			if s.Status(z) != level.Present {
				continue
			}
			present++
			for j := range in.Faces {
				if got, err := s.Neighbors(z, j); err != api.OK || !slices.Equal(got, near[j]) {
					t.Fatal("near", in, z, j)
				}
			}
			for range 40 {
				checkPoint(t, r, s, in, z)
			}
		}
	}
	if present < 60 {
		t.Error("too few", present)
	}
}

// checkPoint looks at a point of a level, in each tile whose open window has it.
func checkPoint(t *testing.T, r *sample.Row, s *Store, in build.Input, z int) {
	side, _ := snap.Side(z)
	q := p(r.Next(side+1), r.Next(side+1))
	at, err := s.Locate(z, q, 1)
	if err != api.OK || at == cover.Border {
		return
	}
	for _, x := range window.All(z) {
		w, _ := window.Window(x, in.Buffer)
		if q.X <= w.Low.X || q.X >= w.High.X || q.Y <= w.Low.Y || q.Y >= w.High.Y {
			continue
		}
		shown, err := s.Tile(x)
		if err != api.OK {
			t.Fatal(err)
		}
		for j := range in.Faces {
			count, ok := tile.Winding(shown, j, window.Local(x, q)[0])
			if !ok || count > 1 || count < 0 || count == 1 != (j == at) {
				t.Fatal("round", in, z, q, x, j, at, count)
			}
		}
	}
}
