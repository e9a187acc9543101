package block

import (
	"bytes"
	"math"
	"testing"

	"graticule/api"
	"graticule/arcs"
	"graticule/net"
	"graticule/sample"
	"graticule/varint"
)

func p(x, y int) api.Point { return api.Point{X: x, Y: y} }

const b = api.Bound

func arc(left, right int, l ...api.Point) arcs.Arc {
	return arcs.Arc{Points: l, Left: left, Right: right}
}

// row is the bytes of numbers.
func row(l ...uint64) []byte { return varint.Bytes(l...) }

// TestCheck: P26.1.
func TestCheck(t *testing.T) {
	long := make([]api.Point, api.MaxPoints)
	refs := make([]int, api.MaxPoints)
	for _, x := range []struct {
		name string
		n    net.Net
		err  api.Errno
	}{
		{"nothing", net.Net{}, api.OK}, {"so many arcs", net.Net{Arcs: make([]arcs.Arc, api.MaxPoints)}, api.OK}, {"so many points", net.Net{Arcs: []arcs.Arc{{Points: long}, {}}}, api.OK}, {"so many faces", net.Net{Rings: make([][][]int, 32)}, api.OK}, {"so many rings", net.Net{Rings: [][][]int{make([][]int, 60), make([][]int, 4)}}, api.OK}, {"so many refs", net.Net{Rings: [][][]int{{refs[5:]}, {refs[:5]}}}, api.OK},
		{"the farthest", net.Net{Arcs: []arcs.Arc{arc(32, 0, p(-b, b), p(b, -b))}, Rings: [][][]int{{{-api.MaxPoints, api.MaxPoints}}}}, api.OK},
		{"arcs", net.Net{Arcs: make([]arcs.Arc, api.MaxPoints+1)}, api.ErrMany}, {"points", net.Net{Arcs: []arcs.Arc{{Points: long, Left: -1}, {Points: long[:1]}}}, api.ErrMany}, {"faces", net.Net{Arcs: []arcs.Arc{{Left: -1}}, Rings: make([][][]int, 33)}, api.ErrMany}, {"rings", net.Net{Rings: [][][]int{{{1 << 20}}, make([][]int, 64)}}, api.ErrMany}, {"refs", net.Net{Rings: [][][]int{{{1 << 20}, refs}}}, api.ErrMany},
		{"a side", net.Net{Arcs: []arcs.Arc{arc(-1, 0)}}, api.ErrRange}, {"a side", net.Net{Arcs: []arcs.Arc{arc(0, 33)}}, api.ErrRange}, {"a side", net.Net{Arcs: []arcs.Arc{arc(33, 0)}}, api.ErrRange}, {"a point", net.Net{Arcs: []arcs.Arc{arc(0, 0, p(0, b+1))}}, api.ErrRange}, {"a point", net.Net{Arcs: []arcs.Arc{arc(0, 0, p(math.MinInt, 0))}}, api.ErrRange}, {"a ref", net.Net{Rings: [][][]int{{{api.MaxPoints + 1}}}}, api.ErrRange}, {"a ref", net.Net{Rings: [][][]int{nil, {nil, {0, -api.MaxPoints - 1}}}}, api.ErrRange},
	} {
		got, err := Bytes(x.n)
		if Check(x.n) != x.err || err != x.err || err != api.OK && len(got) > 0 {
			t.Error(x.name, Check(x.n), err)
		}
		if back, wrong := Parse(got); err == api.OK && (wrong != api.OK || !net.Same(back, x.n)) {
			t.Error(x.name, wrong)
		}
	}
}

// TestBytes: P26.1 and P26.2.
func TestBytes(t *testing.T) {
	for _, x := range []struct {
		n net.Net
		b []byte
	}{
		{net.Net{}, row(0, 0)}, {net.Net{Arcs: []arcs.Arc{arc(0, 1, p(0, 0), p(3, 0))}}, row(1, 0, 1, 2, 0, 0, 6, 0, 0)},
		{net.Net{Arcs: []arcs.Arc{arc(2, 1, p(5, -2)), arc(0, 0), arc(3, 0, p(4, 0))}, Rings: [][][]int{{{0, -1}, nil}, nil, {{1}}}}, row(3, 2, 1, 1, 10, 3, 0, 0, 0, 3, 0, 1, 1, 4, 3, 2, 2, 0, 1, 0, 0, 1, 1, 2)},
	} {
		got, err := Bytes(x.n)
		if !bytes.Equal(got, x.b) || err != api.OK {
			t.Error(x, got, err)
		}
		n, size, err := Read(append(bytes.Clone(x.b), 7, 7))
		if !net.Same(n, x.n) || size != len(x.b) || err != api.OK {
			t.Error(x, n, size, err)
		}
		for i := range x.b {
			if n, size, err = Read(x.b[:i]); err != api.ErrEnd || size != 0 || !net.Same(n, net.Net{}) {
				t.Error(x, i, err)
			}
		}
		if n, err = Parse(append(bytes.Clone(x.b), 7)); err != api.ErrForm || !net.Same(n, net.Net{}) {
			t.Error("bytes are left", err)
		}
	}
}

// TestRead: P26.2.
func TestRead(t *testing.T) {
	z := varint.Zig
	const most = api.MaxPoints
	for _, x := range []struct {
		name string
		b    []byte
		err  api.Errno
	}{
		{"nothing", nil, api.ErrEnd}, {"a long 0", []byte{128, 0}, api.ErrForm}, {"a great number", bytes.Repeat([]byte{255}, 10), api.ErrRange}, {"a number in an arc", []byte{1, 0, 129, 0}, api.ErrForm},
		{"arcs", row(most + 1), api.ErrMany}, {"arcs", row(math.MaxUint64), api.ErrMany}, {"points", row(1, 0, 0, most+1), api.ErrMany}, {"points of two", row(2, 0, 0, 1, 0, 0, 0, 0, most), api.ErrMany}, {"faces", row(0, 33), api.ErrMany}, {"rings", row(0, 1, 65), api.ErrMany}, {"rings of two", row(0, 2, 1, 0, 64), api.ErrMany}, {"refs", row(0, 1, 1, most+1), api.ErrMany}, {"refs of two", row(0, 1, 2, 1, 0, most), api.ErrMany},
		{"left", row(1, 33), api.ErrRange}, {"right", row(1, 0, math.MaxUint64), api.ErrRange}, {"left ahead of points", row(1, 33, 0, most+1), api.ErrRange},
		{"X", row(1, 0, 0, 1, z(b+1)), api.ErrRange}, {"X", row(1, 0, 0, 1, z(-b-1)), api.ErrRange}, {"Y", row(1, 0, 0, 1, 0, z(b+1)), api.ErrRange}, {"X behind", row(1, 0, 0, 2, z(b), 0, 2), api.ErrRange}, {"X in another arc", row(2, 0, 0, 1, z(-b), 0, 0, 0, 1, 1), api.ErrRange}, {"X around", row(1, 0, 0, 2, z(b), 0, z(math.MaxInt)), api.ErrRange}, {"X around", row(1, 0, 0, 2, z(-b), 0, z(math.MinInt)), api.ErrRange},
		{"X, end", row(1, 0, 0, 2, z(b), 0, z(-2*b)), api.ErrEnd}, {"a ref", row(0, 1, 1, 1, z(most+1)), api.ErrRange}, {"a ref", row(0, 1, 1, 1, z(-most-1)), api.ErrRange}, {"a ref", row(0, 1, 1, 1, math.MaxUint64), api.ErrRange}, {"refs, end", row(0, 1, 1, most, z(most), z(-most)), api.ErrEnd},
	} {
		n, size, err := Read(x.b)
		m, wrong := Parse(x.b)
		if err != x.err || wrong != x.err || size != 0 || !net.Same(n, net.Net{}) || !net.Same(m, net.Net{}) {
			t.Error(x.name, n, size, err, wrong)
		}
	}
}

// TestFollows: P26.3.
func TestFollows(t *testing.T) {
	r := sample.New(33)
	read := 0
	for i := range 200 {
		n, err := net.Of(sample.Of(r, sample.Shape{Size: 2 + i%5, Count: 1 + i%4, Step: 9, Jitter: 2})...)
		if err != api.OK {
			t.Fatal(err)
		}
		told, err := Bytes(n)
		got, wrong := Parse(told)
		if err != api.OK || wrong != api.OK || !net.Same(n, got) {
			t.Fatal(n, got)
		}
		for range 100 {
			spoilt := bytes.Clone(told)
			spoilt[r.Next(len(told))] = byte(r.Next(256))
			if got, size, err := Read(spoilt); err == api.OK {
				read++
				if again, wrong := Bytes(got); wrong != api.OK || !bytes.Equal(again, spoilt[:size]) {
					t.Fatal(spoilt)
				}
			}
		}
	}
	if read < 1000 {
		t.Error("too few", read)
	}
}
