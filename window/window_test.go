package window

import (
	"math"
	"slices"
	"testing"

	"graticule/api"
	"graticule/rows"
	"graticule/sample"
)

func p(x, y int) api.Point { return api.Point{X: x, Y: y} }

func box(a, b, c, d int) rows.Box { return rows.Box{Low: p(a, b), High: p(c, d)} }

// wrong are no tiles.
func wrong() []Tile {
	return []Tile{{-1, 0, 0}, {5, 0, 0}, {0, 1, 0}, {0, 0, 1}, {2, 4, 0}, {2, 0, 4}, {2, -1, 0}, {2, 0, -1}, {math.MinInt, math.MaxInt, 0}, {4, math.MaxInt, math.MinInt}}
}

// TestTiles: P20.1.
func TestTiles(t *testing.T) {
	for _, x := range wrong() {
		w, ok := Window(x, 0)
		q, is := Place(x)
		up, has := Parent(x)
		if Right(x) || ok || is || has || w != (rows.Box{}) || q != w || up != (Tile{}) || len(Local(x, p(1, 1))) > 0 || len(World(x, p(1, 1))) > 0 {
			t.Error(x)
		}
	}
	count := 0
	var last Tile
	for z := range 5 {
		l := All(z)
		if len(l) != 1<<(2*z) {
			t.Error(z, len(l))
		}
		for _, x := range l {
			if !Right(x) || x.Z != z || count > 0 && !Less(last, x) {
				t.Error(x)
			}
			count++
			last = x
		}
	}
	if count != 341 || len(All(-1)) > 0 || len(All(5)) > 0 {
		t.Error(count)
	}
	if w, ok := Window(Tile{1, 1, 0}, 100); w != box(3996, -100, 8292, 4196) || !ok {
		t.Error("the example", w)
	}
	for buffer, ok := range map[int]bool{-1: false, 0: true, 2047: true, 2048: false} {
		if w, is := Window(Tile{0, 0, 0}, buffer); is != ok || is && w != box(-buffer, -buffer, 4096+buffer, 4096+buffer) || !is && w != (rows.Box{}) {
			t.Error(buffer, w)
		}
	}
	if w, ok := Place(Tile{4, 15, 3}); w != box(61440, 12288, 65536, 16384) || !ok {
		t.Error(w)
	}
	l := []Tile{{math.MinInt, 9, 9}, {-1, 0, 0}, {0, -5, 9}, {0, 0, -9}, {0, 0, 7}, {9, 0, 0}}
	for i := range l {
		for j := range l {
			if Less(l[i], l[j]) != (i < j) {
				t.Error(l[i], l[j])
			}
		}
	}
	for x, up := range map[Tile]Tile{{1, 1, 0}: {0, 0, 0}, {1, 0, 0}: {0, 0, 0}, {4, 15, 6}: {3, 7, 3}} {
		if got, ok := Parent(x); got != up || !ok {
			t.Error(x, got)
		}
	}
	if got, ok := Parent(Tile{0, 0, 0}); ok || got != (Tile{}) {
		t.Error("level 0")
	}
}

// TestOf: P20.2.
func TestOf(t *testing.T) {
	for _, x := range []struct {
		z  int
		p  api.Point
		t  Tile
		ok bool
	}{
		{1, p(4096, 0), Tile{1, 1, 0}, true}, {1, p(4095, 4096), Tile{1, 0, 1}, true}, {1, p(8192, 8192), Tile{1, 1, 1}, true}, {0, p(4096, 4096), Tile{}, true}, {4, p(65536, 5), Tile{4, 15, 0}, true},
		{1, p(8193, 0), Tile{}, false}, {1, p(-1, 0), Tile{}, false}, {1, p(0, -1), Tile{}, false}, {0, p(0, 4097), Tile{}, false}, {5, p(0, 0), Tile{}, false}, {-1, p(0, 0), Tile{}, false},
	} {
		if got, ok := Of(x.z, x.p); got != x.t || ok != x.ok {
			t.Error(x, got, ok)
		}
	}
	for _, x := range []struct {
		z, buffer int
		b         rows.Box
		l         []Tile
	}{
		{1, 0, box(4096, 5, 4096, 5), nil}, {1, 1, box(4096, 5, 4096, 5), []Tile{{1, 0, 0}, {1, 1, 0}}}, {1, 0, box(4095, 4095, 4097, 4097), All(1)}, {1, 0, box(0, 0, 0, 9), nil}, {1, 5, box(-5, 0, -5, 9), nil}, {1, 5, box(-4, 0, -4, 9), []Tile{{1, 0, 0}}},
		{0, 0, box(-99, -99, 9999, 9999), All(0)}, {1, 0, box(4096, 0, 4097, 4096), []Tile{{1, 1, 0}}},
		{5, 0, box(1, 1, 2, 2), nil}, {-1, 0, box(1, 1, 2, 2), nil}, {1, -1, box(1, 1, 2, 2), nil}, {1, 2048, box(1, 1, 2, 2), nil}, {1, 0, box(2, 2, 1, 1), nil}, {1, 0, box(1, 1, api.Bound+1, 2), nil},
	} {
		if got := Shown(x.z, x.buffer, x.b); !slices.Equal(got, x.l) {
			t.Error(x, got)
		}
	}
}

// TestLocal: P20.3.
func TestLocal(t *testing.T) {
	at := Tile{2, 1, 3}
	l := []api.Point{p(0, 0), p(5000, 12288), p(math.MinInt, math.MaxInt)}
	before := slices.Clone(l)
	got := Local(at, l...)
	if !slices.Equal(got[:2], []api.Point{p(-4096, -12288), p(904, 0)}) || !slices.Equal(World(at, got...), l) || !slices.Equal(l, before) {
		t.Error(got)
	}
	if len(Local(at)) != 0 || len(World(at)) != 0 {
		t.Error("none")
	}
}

// TestFollows: P20.2 by points; P20.4.
func TestFollows(t *testing.T) {
	r := sample.New(27)
	for range 3000 {
		z, buffer := r.Next(5), r.Next(3)*r.Next(1000)
		side := 4096 << z
		q := p(r.Next(side+1), r.Next(side+1))
		if r.Next(2) == 0 {
			q = p(4096*r.Next(1<<z+1), min(side, 4096*r.Next(1<<z+1)+buffer))
		}
		at, ok := Of(z, q)
		w, is := Window(at, buffer)
		if !ok || !is || !rows.Meet(w, rows.Box{Low: q, High: q}) {
			t.Fatal(z, q)
		}
		shown := Shown(z, buffer, rows.Box{Low: q, High: q})
		inside := q.X > w.Low.X && q.X < w.High.X && q.Y > w.Low.Y && q.Y < w.High.Y
		if slices.Contains(shown, at) != inside {
			t.Fatal("shown", z, buffer, q)
		}
		b, _ := rows.Of(q, p(r.Next(side+1), r.Next(side+1)))
		var want []Tile
		for _, x := range All(z) {
			w, _ := Window(x, buffer)
			if rows.Meet(b, box(w.Low.X+1, w.Low.Y+1, w.High.X-1, w.High.Y-1)) {
				want = append(want, x)
			}
		}
		if !slices.Equal(Shown(z, buffer, b), want) {
			t.Fatal("shown", z, buffer, b)
		}
	}
}
