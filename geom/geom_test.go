package geom

import (
	"bytes"
	"math"
	"slices"
	"testing"

	"graticule/api"
	"graticule/ring"
	"graticule/sample"
	"graticule/varint"
)

func p(x, y int) api.Point { return api.Point{X: x, Y: y} }

func same(a, b [][]api.Point) bool { return slices.EqualFunc(a, b, slices.Equal[[]api.Point]) }

func square() []api.Point { return []api.Point{p(0, 0), p(8, 0), p(8, 8), p(0, 8)} }

// TestCheck: P23.1.
func TestCheck(t *testing.T) {
	hole := ring.Turned(square())
	const r = Reach
	if r != 1<<20 || Line != 2 || Polygon != 3 {
		t.Error("numbers")
	}
	for _, x := range []struct {
		name  string
		kind  int
		parts [][]api.Point
		err   api.Errno
	}{
		{"a line", Line, [][]api.Point{{p(-r, r), p(r, -r)}}, api.OK}, {"closed", Line, [][]api.Point{{p(0, 0), p(1, 0), p(0, 0)}}, api.OK}, {"a polygon", Polygon, [][]api.Point{square(), hole}, api.OK}, {"the farthest", Polygon, [][]api.Point{{p(-r, -r), p(r, -r), p(r, r), p(-r, r)}}, api.OK},
		{"a point", 1, nil, api.ErrKind}, {"no kind", 0, [][]api.Point{{p(r+1, 0)}}, api.ErrKind}, {"no kind", 4, nil, api.ErrKind},
		{"no parts", Line, nil, api.ErrGeom}, {"no parts", Polygon, nil, api.ErrGeom},
		{"far", Line, [][]api.Point{{p(0, 0), p(0, 0), p(r+1, 0)}}, api.ErrRange}, {"far", Line, [][]api.Point{{p(0, -r-1)}}, api.ErrRange}, {"far", Polygon, [][]api.Point{{p(0, math.MaxInt)}}, api.ErrRange}, {"a wrong one first", Line, [][]api.Point{{p(0, 0)}, {p(r+1, 0)}}, api.ErrGeom}, {"far behind", Polygon, [][]api.Point{square(), {p(-r-1, 0)}}, api.ErrRange},
		{"one twice", Line, [][]api.Point{{p(0, 0), p(1, 1), p(1, 1)}}, api.ErrGeom}, {"one point", Line, [][]api.Point{{p(0, 0)}}, api.ErrGeom}, {"no point", Line, [][]api.Point{nil}, api.ErrGeom},
		{"one twice", Polygon, [][]api.Point{{p(0, 0), p(8, 0), p(8, 0), p(8, 8)}}, api.ErrGeom}, {"two points", Polygon, [][]api.Point{{p(0, 0), p(8, 0)}}, api.ErrGeom}, {"closed", Polygon, [][]api.Point{append(square(), p(0, 0))}, api.ErrGeom}, {"no area", Polygon, [][]api.Point{{p(0, 0), p(8, 0), p(4, 0)}}, api.ErrGeom},
		{"a hole first", Polygon, [][]api.Point{hole}, api.ErrGeom}, {"no area behind", Polygon, [][]api.Point{square(), {p(0, 0), p(8, 0), p(4, 0)}}, api.ErrGeom},
	} {
		l, err := Numbers(x.kind, x.parts...)
		b, wrong := Bytes(x.kind, x.parts...)
		if Check(x.kind, x.parts...) != x.err || err != x.err || wrong != x.err || err != api.OK && (len(l) > 0 || len(b) > 0) {
			t.Error(x.name, err, wrong)
		}
	}
}

// TestNumbers: P23.1 and P23.4.
func TestNumbers(t *testing.T) {
	for _, x := range []struct {
		kind  int
		parts [][]api.Point
		l     []uint64
	}{
		{Line, [][]api.Point{{p(2, 2), p(2, 10), p(10, 10)}}, []uint64{9, 4, 4, 18, 0, 16, 16, 0}},
		{Polygon, [][]api.Point{{p(3, 6), p(8, 12), p(20, 34)}}, []uint64{9, 6, 12, 18, 10, 12, 24, 44, 15}},
		{Line, [][]api.Point{{p(2, 2), p(2, 10), p(10, 10)}, {p(1, 1), p(3, 5)}}, []uint64{9, 4, 4, 18, 0, 16, 16, 0, 9, 17, 17, 10, 4, 8}},
		{Polygon, [][]api.Point{square(), {p(1, 1), p(1, 2), p(2, 1)}}, []uint64{9, 0, 0, 26, 16, 0, 0, 16, 15, 0, 15, 9, 2, 13, 18, 0, 2, 2, 1, 15}},
	} {
		l, err := Numbers(x.kind, x.parts...)
		b, _ := Bytes(x.kind, x.parts...)
		if !slices.Equal(l, x.l) || err != api.OK || !bytes.Equal(b, varint.Bytes(x.l...)) {
			t.Error(x, l, err)
		}
		parts, err := Read(x.kind, x.l)
		again, wrong := Parse(x.kind, b)
		if !same(parts, x.parts) || !same(again, x.parts) || err != api.OK || wrong != api.OK {
			t.Error(x, parts, err)
		}
	}
}

// TestRead: P23.2.
func TestRead(t *testing.T) {
	const great = 1 << 32
	far := uint64(2 * Reach)
	for _, x := range []struct {
		name string
		kind int
		l    []uint64
		err  api.Errno
	}{
		{"no kind", 1, nil, api.ErrKind}, {"no numbers", Line, nil, api.ErrGeom}, {"no numbers", Polygon, nil, api.ErrGeom},
		{"not a move", Line, []uint64{10}, api.ErrGeom}, {"a move by two", Line, []uint64{17, 0, 0, 0, 0}, api.ErrGeom}, {"great", Line, []uint64{great}, api.ErrRange}, {"the greatest that may be", Line, []uint64{great - 1}, api.ErrGeom},
		{"end", Line, []uint64{9}, api.ErrEnd}, {"end", Line, []uint64{9, 0}, api.ErrEnd}, {"end", Line, []uint64{9, 0, 0}, api.ErrEnd}, {"end", Line, []uint64{9, 0, 0, 10}, api.ErrEnd}, {"end", Line, []uint64{9, 0, 0, 10, 2}, api.ErrEnd}, {"end", Polygon, []uint64{9, 0, 0, 18, 2, 0, 0, 2}, api.ErrEnd}, {"end", Line, []uint64{9, 0, 0, 10, 2, 2, 9}, api.ErrEnd}, {"far more points than numbers", Line, []uint64{9, 0, 0, great - 6, 1}, api.ErrEnd},
		{"great", Line, []uint64{9, great}, api.ErrRange}, {"great", Line, []uint64{9, 0, great}, api.ErrRange}, {"great", Line, []uint64{9, 0, 0, great + 2}, api.ErrRange}, {"great", Line, []uint64{9, 0, 0, 10, math.MaxUint64}, api.ErrRange}, {"great", Polygon, []uint64{9, 0, 0, 18, 2, 0, 0, 2, great + 7}, api.ErrRange},
		{"out", Line, []uint64{9, far + 2}, api.ErrRange}, {"out", Line, []uint64{9, far + 1, 0}, api.ErrRange}, {"out", Line, []uint64{9, far, far, 10, 2, 1}, api.ErrRange}, {"out", Line, []uint64{9, far, far, 10, 1, 2}, api.ErrRange}, {"the farthest", Line, []uint64{9, far, far, 10, 2*far - 1, 0}, api.OK},
		{"not a line", Line, []uint64{9, 0, 0, 9}, api.ErrGeom}, {"close", Line, []uint64{9, 0, 0, 15}, api.ErrGeom}, {"no command", Line, []uint64{9, 0, 0, 11, 2, 0}, api.ErrGeom}, {"a line by none", Line, []uint64{9, 0, 0, 2}, api.ErrGeom}, {"a line by one", Polygon, []uint64{9, 0, 0, 10}, api.ErrGeom}, {"a line by none", Polygon, []uint64{9, 0, 0, 2}, api.ErrGeom},
		{"not closed", Polygon, []uint64{9, 0, 0, 18, 2, 0, 0, 2, 9}, api.ErrGeom}, {"closed otherwise", Polygon, []uint64{9, 0, 0, 18, 2, 0, 0, 2, 7}, api.ErrGeom}, {"closed", Line, []uint64{9, 0, 0, 10, 2, 0, 15}, api.ErrGeom},
		{"like points", Line, []uint64{9, 0, 0, 10, 0, 0}, api.ErrGeom}, {"like points, and more behind", Line, []uint64{9, 0, 0, 10, 0, 0, great}, api.ErrGeom}, {"back to the first", Polygon, []uint64{9, 0, 0, 26, 2, 0, 0, 2, 1, 1, 15}, api.ErrGeom}, {"no area", Polygon, []uint64{9, 0, 0, 18, 2, 0, 2, 0, 15}, api.ErrGeom},
		{"to the right", Polygon, []uint64{9, 0, 0, 18, 0, 2, 2, 0, 15}, api.ErrGeom}, {"to the right behind", Polygon, []uint64{9, 0, 0, 18, 2, 0, 0, 2, 15, 9, 0, 0, 18, 0, 2, 2, 0, 15}, api.OK}, {"no area behind", Polygon, []uint64{9, 0, 0, 18, 2, 0, 0, 2, 15, 9, 0, 0, 18, 0, 2, 0, 2, 15}, api.ErrGeom},
	} {
		parts, err := Read(x.kind, x.l)
		if err != x.err || err != api.OK && len(parts) > 0 {
			t.Error(x.name, x.l, parts, err)
		}
		if parts, err = Parse(x.kind, varint.Bytes(x.l...)); err != x.err || err != api.OK && len(parts) > 0 {
			t.Error("parse", x.name, x.l, parts, err)
		}
	}
	for _, x := range []struct {
		b   []byte
		err api.Errno
	}{{[]byte{9, 128}, api.ErrEnd}, {[]byte{10, 128, 0}, api.ErrForm}} {
		if parts, err := Parse(7, x.b); err != x.err || len(parts) > 0 {
			t.Error(x.b, err)
		}
	}
}

// TestGroups: P23.3.
func TestGroups(t *testing.T) {
	hole := ring.Turned(square())
	for _, x := range []struct {
		l    [][]api.Point
		want [][]int
	}{{nil, nil}, {[][]api.Point{hole, nil}, nil}, {[][]api.Point{hole, square(), hole, nil, square(), hole}, [][]int{{1, 2, 3}, {4, 5}}}, {[][]api.Point{square(), square()}, [][]int{{0}, {1}}}} {
		if got := Groups(x.l); !slices.EqualFunc(got, x.want, slices.Equal[[]int]) {
			t.Error(x, got)
		}
	}
}

// TestFollows: P23.4.
func TestFollows(t *testing.T) {
	r := sample.New(30)
	right, read := 0, 0
	for range 20000 {
		kind := 2 + r.Next(2)
		var parts [][]api.Point
		for range 1 + r.Next(3) {
			var l []api.Point
			for range 2 + r.Next(4) {
				l = append(l, p(r.Next(2*Reach+1)-Reach, r.Next(5)))
			}
			parts = append(parts, l)
		}
		if b, err := Bytes(kind, parts...); err == api.OK {
			right++
			if got, wrong := Parse(kind, b); wrong != api.OK || !same(got, parts) {
				t.Fatal(parts)
			}
		}
		l := []uint64{9, uint64(r.Next(3)), uint64(r.Next(3)), 8*uint64(1+r.Next(3)) + 2}
		for range r.Next(9) {
			l = append(l, uint64(r.Next(4)))
		}
		if kind == Polygon {
			l = append(l, 15)
		}
		if got, err := Read(kind, l); err == api.OK {
			read++
			if again, _ := Numbers(kind, got...); !slices.Equal(again, l) {
				t.Fatal(l, got)
			}
		}
	}
	if right < 1000 || read < 300 {
		t.Error("too few", right, read)
	}
}
