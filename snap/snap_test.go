package snap

import (
	"math"
	"slices"
	"testing"

	"graticule/api"
	"graticule/exact"
	"graticule/face"
	"graticule/order"
	"graticule/ring"
	"graticule/sample"
	"graticule/table"
	"graticule/value"
)

func p(x, y int) api.Point { return api.Point{X: x, Y: y} }

func box(a, b, c, d int) []api.Point { return []api.Point{p(a, b), p(c, b), p(c, d), p(a, d)} }

func of(rings ...[]api.Point) face.Face { return face.Face{Rings: rings} }

// TestLevels: P16.1.
func TestLevels(t *testing.T) {
	for z, n := range map[int]int{0: 4096, 1: 8192, 2: 16384, 3: 32768, 4: 65536} {
		if side, ok := Side(z); side != n || !ok {
			t.Error(z, side)
		}
	}
	for _, z := range []int{-1, 5, math.MinInt, math.MaxInt} {
		side, ok := Side(z)
		lines, is := Lines(z, 0)
		q, are := Point(p(0, 0), z)
		l, err := Ring(nil, z, 0)
		f, wrong := Faces(nil, z, 0)
		if ok || side != 0 || is || len(lines) > 0 || are || q != p(0, 0) || err != api.ErrRange || len(l) > 0 || wrong != api.ErrRange || len(f) > 0 || Exact(nil, z) {
			t.Error(z)
		}
	}
	for _, x := range []struct {
		z, buffer int
		l         []int
		ok        bool
	}{
		{1, 100, []int{3996, 4196}, true}, {0, 7, nil, true}, {1, 0, []int{4096}, true}, {2, 2047, []int{2049, 6143, 6145, 10239, 10241, 14335}, true}, {2, 0, []int{4096, 8192, 12288}, true},
		{1, -1, nil, false}, {1, 2048, nil, false},
	} {
		if l, ok := Lines(x.z, x.buffer); !slices.Equal(l, x.l) || ok != x.ok {
			t.Error(x, l, ok)
		}
	}
	if l, _ := Lines(4, 1); len(l) != 30 {
		t.Error(l)
	}
	for _, x := range []struct {
		p  api.Point
		z  int
		q  api.Point
		ok bool
	}{
		{p(24, 8), 0, p(2, 1), true}, {p(23, 7), 0, p(1, 0), true}, {p(65536, 0), 0, p(4096, 0), true}, {p(65536, 65535), 4, p(65536, 65535), true}, {p(3, 2), 2, p(1, 1), true},
		{p(-1, 0), 0, p(0, 0), false}, {p(0, 65537), 4, p(0, 0), false}, {p(65537, 0), 4, p(0, 0), false}, {p(0, -1), 2, p(0, 0), false},
	} {
		if q, ok := Point(x.p, x.z); q != x.q || ok != x.ok {
			t.Error(x, q, ok)
		}
	}
}

// TestRing: P16.2.
func TestRing(t *testing.T) {
	for _, x := range []struct {
		l         []api.Point
		z, buffer int
		want      []api.Point
		err       api.Errno
	}{
		{[]api.Point{p(0, 0), p(65536, 0), p(0, 65536)}, 1, 0, []api.Point{p(0, 0), p(4096, 0), p(8192, 0), p(4096, 4096), p(0, 8192), p(0, 4096)}, api.OK},
		{nil, 1, 0, nil, api.OK}, {[]api.Point{p(9, 9)}, 4, 0, []api.Point{p(9, 9)}, api.OK}, {box(0, 0, 7, 7), 0, 0, []api.Point{p(0, 0)}, api.OK}, {box(0, 0, 8, 8), 0, 0, box(0, 0, 1, 1), api.OK},
		{[]api.Point{p(0, 0), p(1, 1), p(64, 0), p(65, 1), p(64, 64), p(1, 0)}, 0, 0, []api.Point{p(0, 0), p(4, 0), p(4, 4)}, api.OK},
		{[]api.Point{p(0, 0), p(65536, 0)}, 1, 1, []api.Point{p(0, 0), p(4095, 0), p(4097, 0), p(8192, 0), p(4097, 0), p(4095, 0)}, api.OK},
		{[]api.Point{p(0, 0), p(65537, 0)}, 1, 1, nil, api.ErrRange}, {box(0, 0, 7, 7), 1, 2048, nil, api.ErrRange}, {box(0, 0, 7, 7), 1, -1, nil, api.ErrRange}, {box(0, 0, 7, 7), 5, 1, nil, api.ErrRange},
	} {
		if got, err := Ring(x.l, x.z, x.buffer); !slices.Equal(got, x.want) || err != x.err {
			t.Error(x, got, err)
		}
	}
}

// TestFaces: P16.2.
func TestFaces(t *testing.T) {
	attrs := []table.Attr{{Key: "a", Value: value.Value{Kind: value.Bool, N: 1}}}
	l := []face.Face{{Rings: [][]api.Point{box(0, 0, 64, 64), nil, box(0, 0, 4, 4)}, Attrs: attrs}, {}}
	before := face.Copy(l...)
	got, err := Faces(l, 0, 0)
	if !face.Same(got, []face.Face{{Rings: [][]api.Point{box(0, 0, 4, 4), nil, {p(0, 0)}}, Attrs: attrs}, {}}) || err != api.OK || !face.Same(l, before) {
		t.Error(got, err)
	}
	got[0].Attrs[0].Key = "b"
	same, _ := Faces(l, 4, 0)
	same[0].Rings[0][0] = p(7, 7)
	if !face.Same(l, before) {
		t.Error("shared")
	}
	for _, x := range []struct {
		l         []face.Face
		z, buffer int
	}{{[]face.Face{of(), of(nil, box(0, 0, 1, 65537))}, 1, 1}, {nil, 5, 0}, {nil, 0, 2048}, {nil, 0, -1}, {[]face.Face{of(box(-1, 0, 1, 1))}, 0, 0}} {
		if got, err := Faces(x.l, x.z, x.buffer); err != api.ErrRange || len(got) > 0 {
			t.Error(x, got, err)
		}
	}
}

// TestExact: P16.2.
func TestExact(t *testing.T) {
	for _, x := range []struct {
		l     []face.Face
		z     int
		exact bool
	}{
		{nil, 0, true}, {[]face.Face{of(nil, box(0, 16, 64, 32))}, 0, true}, {[]face.Face{of(box(0, 16, 64, 31))}, 0, false}, {[]face.Face{of(box(8, 16, 64, 32))}, 0, false}, {[]face.Face{of(box(8, 16, 64, 32))}, 1, true},
		{[]face.Face{of([]api.Point{p(0, 0), p(32, 0), p(0, 32)})}, 0, true}, {[]face.Face{of([]api.Point{p(0, 0), p(32, 0), p(0, 16)})}, 0, false}, {[]face.Face{of([]api.Point{p(0, 0), p(32, 0), p(32, 32)})}, 0, true},
		{[]face.Face{of(box(0, 0, 65536, 65536))}, 0, true}, {[]face.Face{of(box(-16, 0, 16, 16))}, 0, false}, {[]face.Face{of(), of([]api.Point{p(65552, 0)})}, 0, false}, {[]face.Face{of(box(1, 2, 3, 9))}, 4, true}, {[]face.Face{of([]api.Point{p(1, 1)})}, 4, true},
	} {
		if Exact(x.l, x.z) != x.exact {
			t.Error(x)
		}
	}
}

// TestFollows: P16.3.
func TestFollows(t *testing.T) {
	r := sample.New(22)
	for i := range 3000 {
		z, buffer := r.Next(5), []int{0, 1, 64, r.Next(2048)}[i%4]
		unit := 1 << (api.MaxZoom - z)
		var l []api.Point
		for range 1 + r.Next(6) {
			l = append(l, p(r.Next(65537), r.Next(65537)))
		}
		got, err := Ring(l, z, buffer)
		back, _ := Ring(ring.Turned(l), z, buffer)
		if err != api.OK || !ring.Alike(ring.Turned(got), back) {
			t.Fatal("turned", l, z, buffer)
		}
		for _, q := range l {
			at, _ := Point(q, z)
			if max(at.X*unit-q.X, q.X-at.X*unit, at.Y*unit-q.Y, q.Y-at.Y*unit)*2 > unit || !slices.Contains(got, at) {
				t.Fatal("moved", q, z)
			}
		}
		lines, _ := Lines(z, buffer)
		for j, a := range got {
			b := got[(j+1)%len(got)]
			if !order.Common(lines, a.X, b.X) || !order.Common(lines, a.Y, b.Y) {
				t.Fatal("strips", l, z, buffer)
			}
		}
		var even []api.Point
		at := p(r.Next(4097), r.Next(4097))
		for range 3 + r.Next(5) {
			even = append(even, p(at.X*unit, at.Y*unit))
			d := r.Next(400) - 200
			at = []api.Point{p(at.X+d, at.Y), p(at.X, at.Y+d), p(at.X+d, at.Y+d), p(at.X+d, at.Y-d)}[r.Next(4)]
			at = p(max(0, min(4096, at.X)), max(0, min(4096, at.Y)))
		}
		if !Exact([]face.Face{of(even)}, z) {
			continue
		}
		got, _ = Ring(even, z, buffer)
		for j, a := range got {
			b := got[(j+1)%len(got)]
			on := false
			for k, u := range even {
				v := even[(k+1)%len(even)]
				u, v = p(u.X/unit, u.Y/unit), p(v.X/unit, v.Y/unit)
				on = on || exact.On(u, v, a) && exact.On(u, v, b)
			}
			if !on {
				t.Fatal("exact", even, z, buffer, got)
			}
		}
	}
}
