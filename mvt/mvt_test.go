package mvt

import (
	"bytes"
	"fmt"
	"math"
	"slices"
	"strings"
	"testing"

	"graticule/api"
	"graticule/geom"
	"graticule/proto"
	"graticule/sample"
	"graticule/table"
	"graticule/value"
)

func p(x, y int) api.Point { return api.Point{X: x, Y: y} }

func attr(key string, n int) table.Attr {
	return table.Attr{Key: key, Value: value.Value{Kind: value.Uint, N: n}}
}

// line is a feature, and poly another one.
func line() Feature {
	return Feature{7, geom.Line, []table.Attr{attr("a", 1), attr("b", 1)}, [][]api.Point{{p(0, 0), p(1, 2)}}}
}

func poly() Feature {
	return Feature{0, geom.Polygon, []table.Attr{attr("b", 2)}, [][]api.Point{{p(0, 0), p(4, 0), p(0, 4)}, {p(1, 1), p(1, 2), p(2, 1)}}}
}

func layer(name string, l ...Feature) Layer { return Layer{name, l} }

// TestCheck: P24.1.
func TestCheck(t *testing.T) {
	bad := Feature{-1, 9, []table.Attr{attr("9", 1)}, nil}
	var many []Layer
	for i := range 17 {
		many = append(many, layer(fmt.Sprint("l", i), line()))
	}
	features := slices.Repeat([]Feature{line()}, 1025)
	for _, x := range []struct {
		name string
		l    []Layer
		err  api.Errno
	}{
		{"nothing", nil, api.OK}, {"two", []Layer{layer("a", line(), poly()), layer("é", poly())}, api.OK}, {"sixteen", many[:16], api.OK}, {"so many features", []Layer{layer("a", features[:1024]...)}, api.OK}, {"a long name", []Layer{layer(strings.Repeat("a", 64), line())}, api.OK},
		{"seventeen", append(slices.Clone(many[:16]), layer("")), api.ErrMany},
		{"no name", []Layer{layer("")}, api.ErrText}, {"a wrong name", []Layer{layer("\xff" + strings.Repeat("a", 64))}, api.ErrText}, {"too long a name", []Layer{layer(strings.Repeat("a", 65))}, api.ErrLong}, {"twice", []Layer{layer("a", line()), layer("a")}, api.ErrTwice},
		{"no features", []Layer{layer("a")}, api.ErrNone}, {"too many features", []Layer{layer("a", append(features, bad)...)}, api.ErrMany}, {"one layer first", []Layer{layer("a"), layer("")}, api.ErrNone},
		{"an ID", []Layer{layer("a", line(), bad)}, api.ErrRange}, {"a great ID", []Layer{layer("a", Feature{ID: 1<<53 + 1})}, api.ErrRange}, {"the greatest ID", []Layer{layer("a", Feature{1 << 53, geom.Line, nil, line().Parts})}, api.OK},
		{"attributes", []Layer{layer("a", Feature{1, 9, bad.Attrs, nil})}, api.ErrText}, {"a kind", []Layer{layer("a", Feature{1, 9, nil, nil})}, api.ErrKind}, {"no parts", []Layer{layer("a", Feature{1, 2, nil, nil})}, api.ErrGeom},
	} {
		tile := Tile{x.l}
		b, err := Encode(tile)
		if Check(tile) != x.err || err != x.err || err != api.OK && len(b) > 0 {
			t.Error(x.name, Check(tile), err)
		}
		if got, wrong := Decode(b); err == api.OK && (wrong != api.OK || !Same(got, tile)) {
			t.Error(x.name, got, wrong)
		}
	}
}

// write is the message of fields.
func write(l ...proto.Field) []byte {
	b, err := proto.Write(l...)
	if err != api.OK {
		panic(err)
	}
	return b
}

func num(n int, v uint64) proto.Field { return proto.Field{Num: n, N: v} }

func msg(n int, l ...proto.Field) proto.Field {
	return proto.Field{Num: n, Kind: proto.Bytes, Bytes: write(l...)}
}

func raw(n int, b ...byte) proto.Field { return proto.Field{Num: n, Kind: proto.Bytes, Bytes: b} }

// TestEncode: P24.1, byte by byte.
func TestEncode(t *testing.T) {
	got, err := Encode(Tile{[]Layer{layer("x", line(), poly())}})
	want := write(msg(3, num(15, 2), raw(1, 'x'),
		msg(2, num(1, 7), raw(2, 0, 0, 1, 0), num(3, 2), raw(4, 9, 0, 0, 10, 2, 4)),
		msg(2, raw(2, 1, 1), num(3, 3), raw(4, 9, 0, 0, 18, 8, 0, 7, 8, 15, 9, 2, 5, 18, 0, 2, 2, 1, 15)),
		raw(3, 'a'), raw(3, 'b'), msg(4, num(5, 1)), msg(4, num(5, 2)), num(5, 4096)))
	if !bytes.Equal(got, want) || err != api.OK {
		t.Error(got, want)
	}
	if got, err = Encode(Tile{}); len(got) != 0 || err != api.OK {
		t.Error("nothing", got, err)
	}
	got, _ = Encode(Tile{[]Layer{layer("x", Feature{0, 2, nil, line().Parts})}})
	if want = write(msg(3, num(15, 2), raw(1, 'x'), msg(2, num(3, 2), raw(4, 9, 0, 0, 10, 2, 4)), num(5, 4096))); !bytes.Equal(got, want) {
		t.Error("no ID, no tags", got)
	}
	got, _ = Encode(Tile{[]Layer{layer("x", Feature{1, 2, nil, line().Parts})}})
	if want = write(msg(3, num(15, 2), raw(1, 'x'), msg(2, num(1, 1), num(3, 2), raw(4, 9, 0, 0, 10, 2, 4)), num(5, 4096))); !bytes.Equal(got, want) {
		t.Error("the ID 1", got)
	}
}

// TestDecode: P24.2, of tiles.
func TestDecode(t *testing.T) {
	good := msg(3, num(15, 2), raw(1, 'x'), goodFeature())
	other := msg(3, num(15, 2), raw(1, 'y'), goodFeature())
	for _, x := range []struct {
		name string
		b    []byte
		err  api.Errno
		n    int
	}{
		{"nothing", nil, api.OK, 0}, {"the example", []byte{26, 0}, api.ErrNone, 0}, {"other fields", write(num(1, 1), good, raw(4), proto.Field{Num: 9, Kind: proto.Four}, other), api.OK, 2},
		{"no message", []byte{26, 1}, api.ErrEnd, 0}, {"no message behind", append(write(raw(3)), 11), api.ErrKind, 0}, {"a number", write(raw(3), num(3, 1)), api.ErrWire, 0},
		{"too many", write(slices.Repeat([]proto.Field{raw(3)}, 17)...), api.ErrMany, 0}, {"too many, and a number", write(append(slices.Repeat([]proto.Field{raw(3)}, 17), num(3, 1))...), api.ErrWire, 0}, {"twice", write(good, good), api.ErrTwice, 0}, {"twice, and wrong", write(good, msg(3, num(15, 2), raw(1, 'x'))), api.ErrNone, 0},
	} {
		got, err := Decode(x.b)
		if err != x.err || len(got.Layers) != x.n {
			t.Error(x.name, got, err)
		}
	}
}

func goodFeature() proto.Field { return msg(2, num(3, 2), raw(4, 9, 0, 0, 10, 2, 4)) }

// TestLayers: P24.3.
func TestLayers(t *testing.T) {
	v, n := num(15, 2), raw(1, 'x')
	f := goodFeature()
	val := msg(4, num(5, 1))
	many := slices.Repeat([]proto.Field{f}, 1025)
	for _, x := range []struct {
		name string
		l    []proto.Field
		err  api.Errno
	}{
		{"right", []proto.Field{f, n, v}, api.OK}, {"an extent", []proto.Field{num(5, 4096), f, n, v, num(6, 1), raw(7)}, api.OK}, {"a table", []proto.Field{v, n, val, raw(3, 'a'), f, msg(4, num(6, 1))}, api.OK},
		{"a number", []proto.Field{num(1, 1)}, api.ErrWire}, {"a number", []proto.Field{num(2, 1)}, api.ErrWire}, {"a number", []proto.Field{num(3, 1)}, api.ErrWire}, {"a number", []proto.Field{{Num: 4, Kind: proto.Four}}, api.ErrWire}, {"bytes", []proto.Field{raw(5)}, api.ErrWire}, {"bytes", []proto.Field{raw(15)}, api.ErrWire}, {"eight", []proto.Field{{Num: 15, Kind: proto.Eight}}, api.ErrWire},
		{"two names", []proto.Field{n, n}, api.ErrTwice}, {"two extents", []proto.Field{num(5, 1), num(5, 1)}, api.ErrTwice}, {"two versions", []proto.Field{v, v}, api.ErrTwice}, {"a second one of another kind", []proto.Field{v, raw(15)}, api.ErrWire}, {"twice first", []proto.Field{n, n, raw(15)}, api.ErrTwice},
		{"no version", []proto.Field{n, f}, api.ErrNone}, {"version 1", []proto.Field{num(15, 1), f}, api.ErrKind}, {"version 3", []proto.Field{num(15, 3)}, api.ErrKind}, {"no name", []proto.Field{v, f, num(5, 1)}, api.ErrNone},
		{"an empty name", []proto.Field{v, raw(1), num(5, 1)}, api.ErrText}, {"a wrong name", []proto.Field{v, raw(1, append([]byte{255}, make([]byte, 70)...)...)}, api.ErrText}, {"a long name", []proto.Field{v, raw(1, make([]byte, 65)...), num(5, 1)}, api.ErrLong},
		{"another extent", []proto.Field{v, n, num(5, 512), raw(4)}, api.ErrRange}, {"no extent", []proto.Field{v, n, num(5, 0)}, api.ErrRange}, {"a wrong value", []proto.Field{v, n, val, raw(4), raw(3, '9')}, api.ErrNone}, {"a float", []proto.Field{v, n, msg(4, num(2, 1))}, api.ErrKind},
		{"a wrong key", []proto.Field{v, n, raw(3, '9'), val, val}, api.ErrText}, {"a key twice", []proto.Field{v, n, raw(3, 'a'), raw(3, 'a'), val, val}, api.ErrTwice}, {"a value twice", []proto.Field{v, n, val, val}, api.ErrTwice},
		{"no features", []proto.Field{v, n}, api.ErrNone}, {"too many", append([]proto.Field{v, n, raw(2)}, many[:1024]...), api.ErrMany}, {"many", append([]proto.Field{v, n}, many[:1024]...), api.OK}, {"a wrong one", []proto.Field{v, n, f, raw(2)}, api.ErrNone},
	} {
		got, err := Decode(write(msg(3, x.l...)))
		if err != x.err || err != api.OK && len(got.Layers) > 0 || err == api.OK && Check(got) != api.OK {
			t.Error(x.name, err)
		}
	}
	if _, err := Decode(write(raw(3, 120))); err != api.ErrEnd {
		t.Error("no message", err)
	}
}

// TestFeatures: P24.4.
func TestFeatures(t *testing.T) {
	k, g := num(3, 2), raw(4, 9, 0, 0, 10, 2, 4)
	for _, x := range []struct {
		name string
		l    []proto.Field
		err  api.Errno
	}{
		{"right", []proto.Field{k, g}, api.OK}, {"in any order", []proto.Field{g, raw(2, 0, 0), num(9, 1), k, num(1, 1<<53), raw(5)}, api.OK}, {"no tags", []proto.Field{k, g, raw(2), num(1, 0)}, api.OK},
		{"bytes", []proto.Field{raw(1)}, api.ErrWire}, {"a number", []proto.Field{num(2, 1)}, api.ErrWire}, {"bytes", []proto.Field{raw(3)}, api.ErrWire}, {"a number", []proto.Field{num(4, 1)}, api.ErrWire}, {"a second one of another kind", []proto.Field{k, raw(3)}, api.ErrWire},
		{"twice", []proto.Field{num(1, 1), num(1, 1)}, api.ErrTwice}, {"twice", []proto.Field{raw(2), raw(2)}, api.ErrTwice}, {"twice", []proto.Field{k, k}, api.ErrTwice}, {"twice", []proto.Field{g, g, raw(3)}, api.ErrTwice},
		{"an ID", []proto.Field{num(1, 1<<53+1), raw(2, 128)}, api.ErrRange}, {"a great ID", []proto.Field{num(1, math.MaxUint64)}, api.ErrRange}, {"tags", []proto.Field{raw(2, 128)}, api.ErrEnd}, {"tags", []proto.Field{raw(2, 128, 0)}, api.ErrForm}, {"a great tag", []proto.Field{raw(2, 129, 128, 128, 128, 8)}, api.ErrRange}, {"a tag that may be", []proto.Field{raw(2, 128, 128, 128, 128, 8)}, api.ErrForm},
		{"one tag", []proto.Field{raw(2, 0)}, api.ErrForm}, {"many tags", []proto.Field{raw(2, make([]byte, 18)...)}, api.ErrMany}, {"no such key", []proto.Field{raw(2, 1, 0)}, api.ErrRange}, {"no such value", []proto.Field{raw(2, 0, 1)}, api.ErrRange}, {"a key twice", []proto.Field{raw(2, 0, 0, 0, 0)}, api.ErrTwice},
		{"no kind", []proto.Field{g}, api.ErrNone}, {"a point", []proto.Field{num(3, 1)}, api.ErrKind}, {"kind 0", []proto.Field{num(3, 0), g}, api.ErrKind}, {"kind 4", []proto.Field{num(3, 4)}, api.ErrKind}, {"a great kind", []proto.Field{num(3, 1<<63+2)}, api.ErrKind},
		{"no geometry", []proto.Field{k}, api.ErrNone}, {"an empty one", []proto.Field{k, raw(4)}, api.ErrGeom}, {"a wrong one", []proto.Field{k, raw(4, 9, 128, 0)}, api.ErrForm}, {"a short one", []proto.Field{k, raw(4, 9)}, api.ErrEnd}, {"another kind's", []proto.Field{num(3, 3), g}, api.ErrGeom},
	} {
		got, err := Decode(write(msg(3, num(15, 2), raw(1, 'x'), raw(3, 'a'), msg(4, num(5, 1)), msg(2, x.l...))))
		if err != x.err || err != api.OK && len(got.Layers) > 0 || err == api.OK && Check(got) != api.OK {
			t.Error(x.name, err)
		}
	}
	if _, err := Decode(write(msg(3, num(15, 2), raw(1, 'x'), raw(2, 0)))); err != api.ErrRange {
		t.Error("no message", err)
	}
}

// TestSame: P24.1.
func TestSame(t *testing.T) {
	one := func() Tile { return Tile{[]Layer{layer("a", line(), poly()), layer("b", poly())}} }
	if !Same(one(), one()) || !Same(Tile{}, Tile{[]Layer{}}) {
		t.Error("same")
	}
	for i, change := range []func(t *Tile){
		func(t *Tile) { t.Layers = t.Layers[:1] }, func(t *Tile) { t.Layers[0].Name = "c" }, func(t *Tile) { t.Layers[0].Features = t.Layers[0].Features[:1] }, func(t *Tile) { t.Layers[0].Features[0].ID++ }, func(t *Tile) { t.Layers[0].Features[0].Kind++ },
		func(t *Tile) { t.Layers[0].Features[0].Attrs = nil }, func(t *Tile) { t.Layers[0].Features[0].Parts = nil }, func(t *Tile) { t.Layers[0].Features[0].Parts[0][1] = p(9, 9) },
	} {
		other := one()
		change(&other)
		if Same(one(), other) || Same(other, one()) {
			t.Error(i)
		}
	}
	tile := Tile{[]Layer{layer("a", line()), layer("b", poly()), layer("b", line())}}
	got, ok := Find(tile, "b")
	if !ok || !Same(Tile{[]Layer{got}}, Tile{[]Layer{layer("b", poly())}}) {
		t.Error("find", got)
	}
	got.Features[0].Parts[0][0] = p(9, 9)
	got.Features[0].Attrs[0].Key = "z"
	if !sameFeature(tile.Layers[1].Features[0], poly()) {
		t.Error("shared")
	}
	if got, ok = Find(tile, "c"); ok || got.Name != "" || len(got.Features) > 0 {
		t.Error("none", got)
	}
}

// TestFollows: P24.5.
func TestFollows(t *testing.T) {
	r := sample.New(31)
	read := 0
	for i := range 3000 {
		tile := Tile{}
		for n := range r.Next(3) {
			l := Layer{Name: fmt.Sprint("n", n)}
			for range 1 + r.Next(4) {
				f := poly()
				if r.Next(2) == 0 {
					f = line()
				}
				f.ID = r.Next(1 << 30)
				f.Attrs = []table.Attr{attr("a", r.Next(3)), attr("b", r.Next(3)), attr("c", r.Next(3))}[:r.Next(4)]
				l.Features = append(l.Features, f)
			}
			tile.Layers = append(tile.Layers, l)
		}
		b, err := Encode(tile)
		got, wrong := Decode(b)
		if err != api.OK || wrong != api.OK || !Same(got, tile) {
			t.Fatal(i, tile, err, wrong)
		}
		for range min(10, len(b)) {
			spoilt := bytes.Clone(b)
			spoilt[r.Next(len(b))] = byte(r.Next(256))
			if got, err := Decode(spoilt); err == api.OK {
				read++
				if Check(got) != api.OK {
					t.Fatal(spoilt)
				}
			}
		}
	}
	if read < 300 {
		t.Error("too few", read)
	}
}
