package build

import (
	"bytes"
	"slices"
	"strings"
	"testing"

	"graticule/api"
	"graticule/arcs"
	"graticule/block"
	"graticule/cover"
	"graticule/face"
	"graticule/level"
	"graticule/mvt"
	"graticule/net"
	"graticule/pack"
	"graticule/proto"
	"graticule/ring"
	"graticule/sample"
	"graticule/snap"
	"graticule/table"
	"graticule/thin"
	"graticule/tile"
	"graticule/value"
	"graticule/window"
)

func p(x, y int) api.Point { return api.Point{X: x, Y: y} }

func box(a, b, c, d int) []api.Point { return []api.Point{p(a, b), p(c, b), p(c, d), p(a, d)} }

func of(rings ...[]api.Point) face.Face { return face.Face{Rings: rings} }

func attr(key string, n int) table.Attr {
	return table.Attr{Key: key, Value: value.Value{Kind: value.Uint, N: n}}
}

func sameStates(a, b []State) bool { return slices.EqualFunc(a, b, sameState) }

// TestCheck: P28.1.
func TestCheck(t *testing.T) {
	bad := []face.Face{of(nil)}
	for _, x := range []struct {
		name string
		in   Input
		err  api.Errno
	}{
		{"nothing", Input{}, api.OK}, {"the farthest", Input{nil, 2047, api.MaxTol, []int{4, 0, 2, 1, 3}}, api.OK},
		{"a buffer", Input{bad, -1, 0, []int{9}}, api.ErrRange}, {"a buffer", Input{nil, 2048, 0, nil}, api.ErrRange}, {"a tolerance", Input{nil, 0, -1, nil}, api.ErrRange}, {"a tolerance", Input{nil, 0, api.MaxTol + 1, nil}, api.ErrRange},
		{"a zoom", Input{bad, 0, 0, []int{1, 5, 1}}, api.ErrRange}, {"a zoom", Input{bad, 0, 0, []int{-1}}, api.ErrRange}, {"a zoom twice", Input{bad, 0, 0, []int{1, 2, 1, 5}}, api.ErrTwice},
		{"a ring", Input{bad, 0, 0, nil}, api.ErrRing}, {"many", Input{make([]face.Face, 33), 0, 0, nil}, api.ErrMany}, {"far", Input{[]face.Face{of(box(0, 0, 65537, 1))}, 0, 0, nil}, api.ErrRange}, {"a side", Input{[]face.Face{of(ring.Turned(box(0, 0, 9, 9)))}, 0, 0, nil}, api.ErrSide},
	} {
		levels, err := Levels(x.in)
		b, wrong := Build(x.in)
		entries, failed := Tiles(x.in, State{Zoom: 9})
		if Check(x.in) != x.err || err != x.err || wrong != x.err || err != api.OK && (len(levels) > 0 || len(b) > 0 || failed != x.err || len(entries) > 0) {
			t.Error(x.name, Check(x.in), err, wrong, failed)
		}
	}
}

// TestBuild: P28.1, byte by byte.
func TestBuild(t *testing.T) {
	for _, x := range []struct {
		in Input
		b  []byte
	}{
		{Input{}, []byte{'G', 'R', 'T', '1', 4, 8, 0, 16, 0, 0, 0}}, {Input{Buffer: 5}, []byte{'G', 'R', 'T', '1', 4, 8, 5, 16, 0, 0, 0}},
		{Input{Zooms: []int{2}}, []byte{'G', 'R', 'T', '1', 14, 8, 0, 16, 0, 34, 8, 8, 2, 16, 1, 26, 2, 0, 0, 0, 0}},
		{Input{Faces: []face.Face{of(box(0, 0, 4, 4))}, Zooms: []int{0}}, []byte{'G', 'R', 'T', '1', 12, 8, 0, 16, 0, 26, 0, 34, 4, 8, 0, 16, 2, 0, 0}},
	} {
		got, err := Build(x.in)
		if !bytes.Equal(got, x.b) || err != api.OK {
			t.Error(x.in, got, err)
		}
	}
	in := Input{[]face.Face{{Rings: [][]api.Point{box(0, 0, 160, 160)}, Attrs: []table.Attr{attr("a", 3)}}}, 1, 0, []int{0}}
	n, _ := net.Of(of(box(0, 0, 10, 10)))
	told, _ := block.Bytes(n)
	shown, _ := tile.Of([]face.Face{{Rings: [][]api.Point{box(0, 0, 10, 10)}, Attrs: in.Faces[0].Attrs}}, n.Arcs, window.Tile{}, 1)
	inner, _ := mvt.Encode(shown)
	head := []byte{8, 1, 16, 0, 26, 7, 10, 1, 'a', 18, 2, 40, 3, 34, byte(6 + len(told)), 8, 0, 16, 1, 26, byte(len(told))}
	want, _ := pack.Write(append(head, told...), pack.Entry{Bytes: inner})
	if got, err := Build(in); !bytes.Equal(got, want) || err != api.OK {
		t.Error(got, want, err)
	}
}

// TestTiles: P28.2.
func TestTiles(t *testing.T) {
	two := Input{Faces: []face.Face{of(box(0, 0, 40000, 40000)), of(box(40000, 0, 60000, 40000))}, Zooms: []int{4}}
	states, _ := Levels(two)
	right := states[0]
	broken := net.Net{Rings: [][][]int{{{5}}}}
	turned := net.Net{Arcs: right.Net.Arcs, Rings: [][][]int{{{1, 0}}, {{-2, 2}}}}
	for _, x := range []struct {
		name string
		s    State
		n    int
		err  api.Errno
	}{
		{"right", right, -1, api.OK}, {"collapsed", State{Zoom: 4, Status: level.Collapsed}, 0, api.OK}, {"no status", State{Zoom: 4, Status: 0, Net: right.Net}, 0, api.OK},
		{"a broken net", State{9, level.Collapsed, broken}, 0, api.ErrRange}, {"another number", State{9, level.Present, net.Net{}}, 0, api.ErrForm}, {"no level", State{5, level.Present, right.Net}, 0, api.ErrRange}, {"no level, collapsed", State{-1, level.Collapsed, net.Net{}}, 0, api.ErrRange},
		{"no nest", State{4, level.Present, turned}, 0, api.ErrForm},
	} {
		got, err := Tiles(two, x.s)
		if err != x.err || x.n >= 0 && len(got) != x.n {
			t.Error(x.name, len(got), err)
		}
	}
	clockwise := State{4, level.Present, net.Net{Arcs: []arcs.Arc{{Points: append(box(0, 0, 9, 9), p(0, 0))}}, Rings: [][][]int{{{-1}}, {{0}}}}}
	if got, err := Tiles(two, clockwise); err != api.ErrSide || len(got) > 0 {
		t.Error("no nest", err)
	}
	strange := right
	strange.Net = net.Copy(right.Net)
	strange.Net.Arcs[0].Left = -5
	if got, err := Tiles(two, strange); err != api.ErrRange || len(got) > 0 {
		t.Error("a wrong attribute", err)
	}
}

// heads are levels of two faces.
func someHead() Head {
	n, _ := net.Of(of(box(0, 0, 4, 4)), of(box(4, 0, 8, 4)))
	return Head{5, 6, [][]table.Attr{{attr("a", 1), attr("b", 2)}, nil}, []State{{0, level.Collapsed, net.Net{}}, {2, level.Present, n}, {4, level.Present, n}}}
}

// TestHead: P28.3.
func TestHead(t *testing.T) {
	if b, err := Bytes(Head{Buffer: 5}); !bytes.Equal(b, []byte{8, 5, 16, 0}) || err != api.OK {
		t.Error("the example", b, err)
	}
	for i, x := range []struct {
		change func(h *Head)
		err    api.Errno
	}{
		{func(h *Head) {}, api.OK}, {func(h *Head) { h.Buffer, h.Attrs = -1, make([][]table.Attr, 33) }, api.ErrRange}, {func(h *Head) { h.Buffer = 2048 }, api.ErrRange}, {func(h *Head) { h.Tol = -1 }, api.ErrRange}, {func(h *Head) { h.Tol = api.MaxTol + 1 }, api.ErrRange},
		{func(h *Head) { h.Attrs = append(make([][]table.Attr, 32), []table.Attr{attr("9", 1)}) }, api.ErrMany}, {func(h *Head) { h.Attrs[1] = []table.Attr{attr("9", 1)}; h.Levels[0].Zoom = 9 }, api.ErrText}, {func(h *Head) { h.Attrs[0][1].Key = "a" }, api.ErrTwice},
		{func(h *Head) { h.Levels[0] = State{Zoom: -1, Status: 9} }, api.ErrRange}, {func(h *Head) { h.Levels[2].Zoom = 5 }, api.ErrRange}, {func(h *Head) { h.Levels[1] = State{Zoom: 0, Status: 9} }, api.ErrOrder}, {func(h *Head) { h.Levels[1].Zoom = 4 }, api.ErrOrder}, {func(h *Head) { h.Levels[0].Status, h.Levels[1].Zoom = 0, 9 }, api.ErrKind}, {func(h *Head) { h.Levels[2].Status = 3 }, api.ErrKind},
		{func(h *Head) { h.Levels[0].Net.Arcs = make([]arcs.Arc, 1) }, api.ErrForm}, {func(h *Head) { h.Levels[0].Net.Rings = make([][][]int, 1) }, api.ErrForm},
		{func(h *Head) { h.Levels[1].Net = net.Net{Rings: make([][][]int, 33)} }, api.ErrMany}, {func(h *Head) { h.Levels[1].Net = net.Net{Rings: [][][]int{{{1 << 20}}}} }, api.ErrRange}, {func(h *Head) { h.Levels[1].Net.Rings = h.Levels[1].Net.Rings[:1] }, api.ErrForm}, {func(h *Head) { h.Levels[2].Net = net.Net{} }, api.ErrForm},
	} {
		h := someHead()
		x.change(&h)
		b, err := Bytes(h)
		if CheckHead(h) != x.err || err != x.err || err != api.OK && len(b) > 0 {
			t.Error(i, CheckHead(h), err)
		}
		if got, wrong := Read(b); err == api.OK && (wrong != api.OK || !Same(got, h)) {
			t.Error(i, wrong)
		}
		if Same(h, someHead()) != (i == 0) || Same(someHead(), h) != (i == 0) {
			t.Error("same", i)
		}
	}
	if !Same(Head{}, Head{Attrs: [][]table.Attr{}}) {
		t.Error("nothing")
	}
}

func num(n int, v uint64) proto.Field { return proto.Field{Num: n, N: v} }

func raw(n int, b ...byte) proto.Field { return proto.Field{Num: n, Kind: proto.Bytes, Bytes: b} }

func msg(n int, l ...proto.Field) proto.Field {
	b, err := proto.Write(l...)
	if err != api.OK {
		panic(err)
	}
	return raw(n, b...)
}

// collapsed is the field of a level that has collapsed.
func collapsed(z uint64) proto.Field { return msg(4, num(1, z), num(2, 2)) }

// TestRead: P28.4.
func TestRead(t *testing.T) {
	one, two := num(1, 5), num(2, 6)
	key, val := raw(1, 'a'), msg(2, num(5, 1))
	good := raw(3, 0, 0)
	many := slices.Repeat([]proto.Field{raw(3)}, 33)
	for _, x := range []struct {
		name string
		l    []proto.Field
		err  api.Errno
	}{
		{"right", []proto.Field{one, two}, api.OK}, {"levels", []proto.Field{one, two, msg(4, num(1, 0), num(2, 1), good), msg(4, num(1, 4), num(2, 2))}, api.OK}, {"faces", append([]proto.Field{one, two}, many[:32]...), api.OK},
		{"nothing", nil, api.ErrForm}, {"one", []proto.Field{one}, api.ErrForm}, {"two alone", []proto.Field{two}, api.ErrForm}, {"turned", []proto.Field{two, one}, api.ErrForm}, {"one twice", []proto.Field{one, one, two}, api.ErrForm}, {"one twice alone", []proto.Field{one, one}, api.ErrForm}, {"two twice alone", []proto.Field{two, two}, api.ErrForm}, {"all levels", []proto.Field{one, two, collapsed(0), collapsed(1), collapsed(2), collapsed(3), collapsed(4)}, api.OK}, {"two twice", []proto.Field{one, two, two}, api.ErrForm}, {"bytes", []proto.Field{raw(1), two}, api.ErrForm}, {"another field", []proto.Field{one, two, num(5, 1)}, api.ErrForm}, {"a number", []proto.Field{one, two, num(3, 1)}, api.ErrForm}, {"a number", []proto.Field{num(1, 9999), two, num(4, 1)}, api.ErrForm}, {"faces behind", []proto.Field{one, two, raw(4), raw(3)}, api.ErrForm},
		{"a buffer", append([]proto.Field{num(1, 2048), two}, many...), api.ErrRange}, {"a great buffer", []proto.Field{num(1, 1<<63), two}, api.ErrRange}, {"a tolerance", append([]proto.Field{one, num(2, api.MaxTol+1)}, many...), api.ErrRange}, {"many faces", append([]proto.Field{one, two, raw(3, 0)}, many...), api.ErrMany},
		{"a face", []proto.Field{one, two, raw(3, 0)}, api.ErrRange}, {"a key alone", []proto.Field{one, two, msg(3, key)}, api.ErrForm}, {"turned", []proto.Field{one, two, msg(3, val, key)}, api.ErrForm}, {"a number", []proto.Field{one, two, msg(3, num(1, 1), val)}, api.ErrForm}, {"a number", []proto.Field{one, two, msg(3, raw(1, '9'), num(2, 1))}, api.ErrForm}, {"a third", []proto.Field{one, two, msg(3, key, raw(2), key)}, api.ErrForm}, {"another field", []proto.Field{one, two, msg(3, key, val, num(7, 1), num(8, 1))}, api.ErrForm},
		{"a value", []proto.Field{one, two, msg(3, raw(1, '9'), raw(2))}, api.ErrNone}, {"a key", []proto.Field{one, two, msg(3, raw(1, '9'), val)}, api.ErrText}, {"a key twice", []proto.Field{one, two, msg(3, key, val, key, val)}, api.ErrTwice}, {"many attributes", []proto.Field{one, two, msg(3, slices.Repeat([]proto.Field{key, val}, 9)...)}, api.ErrMany}, {"a later face", []proto.Field{one, two, raw(3), raw(3, 0), raw(4, 0)}, api.ErrRange},
		{"many levels", append([]proto.Field{one, two, raw(4, 11)}, slices.Repeat([]proto.Field{raw(4)}, 5)...), api.ErrMany}, {"a level", []proto.Field{one, two, raw(4, 11)}, api.ErrKind}, {"an empty one", []proto.Field{one, two, raw(4)}, api.ErrForm}, {"no status", []proto.Field{one, two, msg(4, num(1, 9))}, api.ErrForm}, {"turned", []proto.Field{one, two, msg(4, num(2, 2), num(1, 9))}, api.ErrForm}, {"bytes", []proto.Field{one, two, msg(4, num(1, 9), raw(2))}, api.ErrForm},
		{"a zoom", []proto.Field{one, two, msg(4, num(1, 5), num(2, 9))}, api.ErrRange}, {"a great zoom", []proto.Field{one, two, msg(4, num(1, 1<<63), num(2, 9))}, api.ErrRange}, {"a zoom twice", []proto.Field{one, two, msg(4, num(1, 3), num(2, 2)), msg(4, num(1, 3), num(2, 9))}, api.ErrOrder}, {"status 0", []proto.Field{one, two, msg(4, num(1, 3), num(2, 0), raw(9))}, api.ErrKind}, {"status 3", []proto.Field{one, two, msg(4, num(1, 3), num(2, 3))}, api.ErrKind}, {"a great status", []proto.Field{one, two, msg(4, num(1, 3), num(2, 1<<63+1))}, api.ErrKind},
		{"collapsed with a net", []proto.Field{one, two, msg(4, num(1, 3), num(2, 2), good)}, api.ErrForm}, {"present without", []proto.Field{one, two, msg(4, num(1, 3), num(2, 1))}, api.ErrForm}, {"one more", []proto.Field{one, two, msg(4, num(1, 3), num(2, 1), raw(3, 9), num(4, 1))}, api.ErrForm}, {"another field", []proto.Field{one, two, msg(4, num(1, 3), num(2, 1), raw(4, 0, 0))}, api.ErrForm}, {"a number", []proto.Field{one, two, msg(4, num(1, 3), num(2, 1), num(3, 0))}, api.ErrForm},
		{"a net's end", []proto.Field{one, two, msg(4, num(1, 3), num(2, 1), raw(3, 0))}, api.ErrEnd}, {"more behind the net", []proto.Field{one, two, msg(4, num(1, 3), num(2, 1), raw(3, 0, 0, 0))}, api.ErrForm}, {"another number of faces", []proto.Field{one, two, raw(3), msg(4, num(1, 3), num(2, 1), good)}, api.ErrForm}, {"a net's ref", []proto.Field{one, two, raw(3), msg(4, num(1, 3), num(2, 1), raw(3, 0, 2, 0, 64))}, api.ErrEnd},
	} {
		b, _ := proto.Write(x.l...)
		h, err := Read(b)
		if err != x.err || err != api.OK && !Same(h, Head{}) {
			t.Error(x.name, h, err)
		}
		if again, wrong := Bytes(h); err == api.OK && (wrong != api.OK || !bytes.Equal(again, b)) {
			t.Error(x.name, again, b, wrong)
		}
	}
	if _, err := Read([]byte{8}); err != api.ErrEnd {
		t.Error("no message", err)
	}
}

// TestFollows: P28.1 and P28.2 by their words; P28.5.
func TestFollows(t *testing.T) {
	r := sample.New(35)
	counts := map[int]int{}
	for i := range 150 {
		shape := sample.Shape{Size: 2 + i%5, Count: 1 + i%4, Step: 5 << r.Next(12), Low: p(9000, 3000)}
		shape.Jitter = shape.Step / 5
		in := Input{sample.Of(r, shape), []int{0, 64, 2047}[i%3], []int{0, 100, api.MaxTol}[r.Next(3)], []int{3, 0, 2}}
		if cover.Check(in.Faces...) != api.OK {
			continue
		}
		levels, err := Levels(in)
		b, wrong := Build(in)
		if err != api.OK || wrong != api.OK || len(levels) != 3 {
			t.Fatal(in, err, wrong)
		}
		var entries []pack.Entry
		for j, s := range levels {
			counts[s.Status]++
			at, _ := level.Of(in.Faces, []int{0, 2, 3}[j], in.Buffer)
			if s.Zoom != at.Zoom || s.Status != at.Status {
				t.Fatal("level", in, s)
			}
			checkLevel(t, in, s, at)
			told, err := Tiles(in, s)
			if err != api.OK {
				t.Fatal(err)
			}
			entries = append(entries, told...)
		}
		archive, err := pack.Open(b)
		if err != api.OK || !slices.EqualFunc(archive.Entries(), entries, func(a, b pack.Entry) bool { return a.Tile == b.Tile && bytes.Equal(a.Bytes, b.Bytes) }) {
			t.Fatal("entries", in)
		}
		head, err := Read(archive.Head())
		if err != api.OK || head.Buffer != in.Buffer || head.Tol != in.Tol || !sameStates(head.Levels, levels) || len(head.Attrs) != len(in.Faces) || !table.Same(head.Attrs[0], in.Faces[0].Attrs) {
			t.Fatal("head", in)
		}
		in.Zooms = []int{2, 3, 0}
		if again, _ := Build(in); !bytes.Equal(again, b) {
			t.Fatal("another order", in)
		}
	}
	if counts[level.Present] < 40 || counts[level.Collapsed] < 10 {
		t.Error("too few", counts)
	}
}

// checkLevel looks at a level's net.
func checkLevel(t *testing.T, in Input, s State, at level.Level) {
	if s.Status != level.Present {
		if !net.Same(s.Net, net.Net{}) {
			t.Fatal("collapsed", in)
		}
		return
	}
	whole, _ := net.Of(at.Faces...)
	lines, _ := snap.Lines(s.Zoom, in.Buffer)
	want, _, _ := thin.Net(lines, in.Tol, whole)
	faces, err := net.Faces(s.Net)
	if err != api.OK || !net.Same(s.Net, want) || net.Check(s.Net) != api.OK || !cover.Alike(faces, in.Faces) {
		t.Fatal("present", in)
	}
	told, _ := Tiles(in, s)
	var area int
	for _, e := range told {
		shown, err := mvt.Decode(e.Bytes)
		if err != api.OK || tile.Empty(shown) {
			t.Fatal("tile", in)
		}
		for i := range faces {
			for _, r := range tile.Rings(shown, i) {
				area += ring.Area(r)
			}
		}
	}
	for _, f := range faces {
		for _, r := range f.Rings {
			area -= ring.Area(r)
		}
	}
	if in.Buffer == 0 && area != 0 {
		t.Fatal("areas", in, area)
	}
}

// TestLong: attributes come through, whatever they are.
func TestLong(t *testing.T) {
	f := of(box(0, 0, 40000, 40000))
	f.Attrs = []table.Attr{{Key: strings.Repeat("é", 32), Value: value.Value{Kind: value.Text, Text: strings.Repeat("x", 64)}}, {Key: "n", Value: value.Value{Kind: value.Int, N: -1 << 60}}}
	b, err := Build(Input{Faces: []face.Face{f}, Zooms: []int{1}})
	archive, wrong := pack.Open(b)
	if err != api.OK || wrong != api.OK {
		t.Fatal(err, wrong)
	}
	head, _ := Read(archive.Head())
	told, _ := archive.Get(window.Tile{Z: 1, X: 1, Y: 1})
	shown, _ := mvt.Decode(told)
	attrs, ok := tile.Attrs(shown, 0)
	if !ok || !table.Same(attrs, f.Attrs) || !table.Same(head.Attrs[0], f.Attrs) {
		t.Error(attrs, head)
	}
}
