package world

import (
	"bytes"
	"slices"
	"testing"

	"graticule/api"
	"graticule/arcs"
	"graticule/build"
	"graticule/cover"
	"graticule/exact"
	"graticule/face"
	"graticule/level"
	"graticule/mvt"
	"graticule/net"
	"graticule/pack"
	"graticule/query"
	"graticule/ring"
	"graticule/sample"
	"graticule/seg"
	"graticule/snap"
	"graticule/thin"
	"graticule/tile"
	"graticule/window"
)

// TestExamples: the ten examples of the whole.
func TestExamples(t *testing.T) {
	one, other := of(box(0, 0, 4, 4)), of(box(4, 0, 8, 4))
	more := of([]api.Point{p(4, 0), p(8, 0), p(8, 4), p(4, 4), p(4, 2)})
	if cover.Valid(one, other) != api.OK || cover.Valid(one, more) != api.ErrMatch {
		t.Error("1")
	}
	small := []face.Face{one}
	why, _ := level.Why(small, 0, 0)
	at, _ := level.Of(small, 2, 0)
	if why != api.ErrRing || at.Status != level.Present || !slices.Equal(at.Faces[0].Rings[0], box(0, 0, 1, 1)) {
		t.Error("2", why, at)
	}
	if why, _ := level.Why([]face.Face{of(box(0, 0, 64, 64)), of(box(65, 0, 128, 64))}, 0, 0); why != api.ErrCollapsed {
		t.Error("3", why)
	}
	if lines, _ := snap.Lines(1, 0); !slices.Equal(seg.Cuts(p(0, 8192), p(8192, 0), lines, lines), []api.Point{p(4096, 4096)}) {
		t.Error("4")
	}
	hill := arcs.Arc{Points: []api.Point{p(0, 0), p(2, 1), p(4, 0)}}
	if got, n, _ := thin.Arcs(nil, 5, hill); n != 1 || len(got[0].Points) != 2 {
		t.Error("5")
	}
	w, err := New(build.Input{Faces: []face.Face{of(box(0, 0, 40000, 40000))}, Buffer: 64, Zooms: []int{1}})
	if err != api.OK {
		t.Fatal(err)
	}
	shown, _ := w.Store().Tile(window.Tile{Z: 1, X: 1, Y: 1})
	if rings := tile.Rings(shown, 0); len(rings) != 1 || rings[0][0] != p(-64, -64) {
		t.Error("6", rings)
	}
	for q, want := range map[api.Point]int{p(5, 5): 0, p(5, 0): cover.Border, p(8000, 8000): cover.None} {
		if got, _ := w.Store().Locate(1, q, 1); got != want {
			t.Error("7", q, got)
		}
	}
	if near := cover.Near(one, other); !slices.Equal(near[0], []int{cover.None, 1}) || !slices.Equal(near[1], []int{cover.None, 0}) {
		t.Error("8")
	}
	if b, _ := build.Build(build.Input{}); !bytes.Equal(b, []byte{'G', 'R', 'T', '1', 4, 8, 0, 16, 0, 0, 0}) {
		t.Error("9", b)
	}
	archive, _ := pack.Open(w.Bytes())
	entries := archive.Entries()
	told := entries[0].Bytes
	for i := range told {
		told[i] ^= 1
		b, _ := pack.Write(archive.Head(), entries...)
		if s, err := query.Open(b); err == api.OK && s.Verify() != api.ErrMatch {
			t.Error("10", i)
		}
		told[i] ^= 1
	}
}

// made is an input, of a coverage that may be told.
func made(r *sample.Row, i int) (build.Input, bool) {
	shape := sample.Shape{Size: 2 + i%5, Count: 1 + i%4, Step: 5 << r.Next(12), Low: p(r.Next(9000), 3000), Plain: i%3 == 0}
	if !shape.Plain {
		shape.Jitter = shape.Step / 5
	}
	in := build.Input{Faces: sample.Of(r, shape), Buffer: []int{0, 64, 2047, 0}[i%4], Tol: []int{0, 500, api.MaxTol}[r.Next(3)], Zooms: []int{2, 0, 3}}
	return in, cover.Check(in.Faces...) == api.OK
}

// TestWhole: T1 to T4, T7, T9 and T10.
func TestWhole(t *testing.T) {
	r := sample.New(40)
	presents := 0
	for i := range 120 {
		in, right := made(r, i)
		b, err := build.Build(in)
		if (err == api.OK) != right {
			t.Fatal("T1", in, err)
		}
		if !right {
			continue
		}
		if again, _ := build.Build(in); !bytes.Equal(again, b) {
			t.Fatal("T10", in)
		}
		s, err := query.Open(b)
		if err != api.OK {
			t.Fatal(in, err)
		}
		near := cover.Near(in.Faces...)
		for _, z := range s.Levels() {
			if snap.Exact(in.Faces, z) && s.Status(z) != level.Present {
				t.Fatal("T2", in, z)
			}
			if s.Status(z) != level.Present {
				continue
			}
			presents++
			faces, _ := s.Faces(z)
			if cover.Valid(faces...) != api.OK || !cover.Alike(faces, in.Faces) {
				t.Fatal("T3", in, z)
			}
			for j := range near {
				if got, _ := s.Neighbors(z, j); !slices.Equal(got, near[j]) {
					t.Fatal("T4", in, z, j)
				}
			}
			checkPoints(t, in, z, faces)
			checkTiles(t, s, z)
			if in.Buffer == 0 {
				checkOnce(t, s, z, faces)
			}
		}
	}
	if presents < 100 {
		t.Error("too few", presents)
	}
}

// checkTiles looks whether tiles are told anew in the same bytes (T7).
func checkTiles(t *testing.T, s *query.Store, z int) {
	tiles, _ := s.Tiles(z)
	for _, x := range tiles {
		b, _ := s.Get(x)
		shown, err := mvt.Decode(b)
		again, wrong := mvt.Encode(shown)
		if err != api.OK || wrong != api.OK || !bytes.Equal(again, b) {
			t.Fatal("T7", x)
		}
	}
}

// checkPoints looks whether each point is one of the coverage, rounded, or lies on a line near an edge (T9).
func checkPoints(t *testing.T, in build.Input, z int, faces []face.Face) {
	lines, _ := snap.Lines(z, in.Buffer)
	rounded := map[api.Point]bool{}
	var edges [][2]api.Point
	for _, s := range face.Sides(in.Faces...) {
		a, _ := snap.Point(s.A, z)
		b, _ := snap.Point(s.B, z)
		rounded[a] = true
		edges = append(edges, [2]api.Point{a, b})
	}
	near := func(q api.Point) bool {
		for _, e := range edges {
			x, onX := seg.AtY(e[0], e[1], q.Y)
			y, onY := seg.AtX(e[0], e[1], q.X)
			if onX && x == q.X && slices.Contains(lines, q.Y) || onY && y == q.Y && slices.Contains(lines, q.X) {
				return true
			}
		}
		return false
	}
	for _, s := range face.Sides(faces...) {
		if !rounded[s.A] && !near(s.A) {
			t.Fatal("T9", in, z, s)
		}
	}
}

// checkOnce looks, of an archive without a buffer, at areas, and at edges that are told by one tile (T6).
func checkOnce(t *testing.T, s *query.Store, z int, faces []face.Face) {
	areas := make([]int, len(faces))
	met := map[[2]api.Point]int{}
	n, _, _ := s.Size(z)
	tiles, _ := s.Tiles(z)
	for _, x := range tiles {
		shown, _ := s.Tile(x)
		for j := range faces {
			for _, part := range tile.Rings(shown, j) {
				areas[j] += ring.Area(part)
			}
		}
		for a := range n {
			for _, part := range tile.Lines(shown, a) {
				row := window.World(x, part...)
				for k := range row[1:] {
					met[between(row[k], row[k+1])]++
				}
			}
		}
	}
	for j := range faces {
		if area, _ := s.Area(z, j); area != areas[j] {
			t.Fatal("T6, areas", z, j, area, areas[j])
		}
	}
	for _, e := range face.Sides(faces...) {
		along := e.A.X == e.B.X && e.A.X%api.Extent == 0 || e.A.Y == e.B.Y && e.A.Y%api.Extent == 0
		if count := met[between(e.A, e.B)]; !along && count != 1 || along && count > 0 {
			t.Fatal("T6, edges", z, e, count)
		}
	}
}

// between are two points, the lesser one first.
func between(a, b api.Point) [2]api.Point {
	if exact.Less(b, a) {
		a, b = b, a
	}
	return [2]api.Point{a, b}
}

// TestShown: T5 and T6, of all tiles: an entry is there just if a face or an arc comes strictly within the window.
func TestShown(t *testing.T) {
	r := sample.New(41)
	for i := range 40 {
		in, right := made(r, i)
		if !right {
			continue
		}
		b, _ := build.Build(in)
		s, err := query.Open(b)
		if err != api.OK {
			t.Fatal(err)
		}
		for _, z := range s.Levels() {
			if s.Status(z) != level.Present {
				continue
			}
			faces, _ := s.Faces(z)
			n, _ := net.Of(faces...)
			for _, x := range window.All(z) {
				checkWindow(t, r, s, x, in.Buffer, faces, n)
			}
		}
	}
}

// checkWindow looks at points of a tile's window, halves of units too, and at its lines.
func checkWindow(t *testing.T, r *sample.Row, s *query.Store, x window.Tile, buffer int, faces []face.Face, n net.Net) {
	w, _ := window.Window(x, buffer)
	shown, _ := s.Tile(x)
	seen := false
	for range 10 {
		q := p(2*w.Low.X+1+r.Next(2*(w.High.X-w.Low.X)-1), 2*w.Low.Y+1+r.Next(2*(w.High.Y-w.Low.Y)-1))
		for j, f := range faces {
			var great, part face.Face
			for _, l := range f.Rings {
				great.Rings = append(great.Rings, ring.Scaled(l, 2))
			}
			for _, l := range tile.Rings(shown, j) {
				part.Rings = append(part.Rings, ring.Scaled(window.World(x, l...), 2))
			}
			want, ok := face.Winding(great, q)
			got, is := face.Winding(part, q)
			seen = seen || ok && want > 0
			if ok && (!is || got != want) {
				t.Fatal("T5", x, j, q, want, got)
			}
		}
	}
	for a, arc := range n.Arcs {
		var row [][2]api.Point
		for k := range arc.Points[1:] {
			u, v := arc.Points[k], arc.Points[k+1]
			if inner(u, v, w.Low, w.High) {
				row = append(row, [2]api.Point{u, v})
			}
		}
		var told [][2]api.Point
		for _, part := range tile.Lines(shown, a) {
			l := window.World(x, part...)
			for k := range l[1:] {
				told = append(told, [2]api.Point{l[k], l[k+1]})
			}
		}
		seen = seen || len(row) > 0
		if !slices.Equal(row, told) {
			t.Fatal("T5, lines", x, a, row, told)
		}
	}
	if seen && tile.Empty(shown) {
		t.Fatal("T6", x)
	}
}

// inner tells whether the middle of an edge, which no line of a window's sides cuts, lies strictly within it.
func inner(u, v, low, high api.Point) bool {
	x, y := u.X+v.X, u.Y+v.Y
	return x > 2*low.X && x < 2*high.X && y > 2*low.Y && y < 2*high.Y
}

// TestCrossing: T1, of a coverage in which two exteriors and a hole of one face cross in the two points in which they touch: three bands between these, told otherwise than one by one.
func TestCrossing(t *testing.T) {
	low, high := p(30000, 2000), p(30000, 62000)
	between := func(right, left int) []api.Point {
		return []api.Point{low, p(right-900, 20000), p(right, 30000), p(right-800, 40000), high, p(left+700, 41000), p(left, 31000), p(left+1000, 21000)}
	}
	crossing := of(between(33000, 3000), between(53000, 23000), between(13000, 43000))
	if ring.Area(crossing.Rings[2]) >= 0 || cover.Check(crossing) != api.OK {
		t.Fatal(cover.Check(crossing))
	}
	for _, tol := range []int{0, 500, api.MaxTol} {
		w, err := New(build.Input{Faces: []face.Face{crossing}, Buffer: 64, Tol: tol, Zooms: []int{0, 1, 2, 3, 4}})
		if err != api.OK {
			t.Fatal(err)
		}
		if s := w.Store(); s.Verify() != api.OK || s.Status(4) != level.Present {
			t.Error(tol)
		}
		for x, want := range map[int]int{8000: 0, 18000: cover.None, 28000: 0, 38000: cover.None, 48000: 0} {
			if got, err := w.Store().Locate(4, p(x, 30500), 1); got != want || err != api.OK {
				t.Error(tol, x, got)
			}
		}
	}
}
