package world

import (
	"bytes"
	"slices"
	"strings"
	"testing"

	"graticule/api"
	"graticule/build"
	"graticule/cover"
	"graticule/face"
	"graticule/level"
	"graticule/pack"
	"graticule/query"
	"graticule/ring"
	"graticule/sample"
	"graticule/script"
	"graticule/text"
	"graticule/value"
	"graticule/window"
)

func p(x, y int) api.Point { return api.Point{X: x, Y: y} }

func box(a, b, c, d int) []api.Point { return []api.Point{p(a, b), p(c, b), p(c, d), p(a, d)} }

func of(rings ...[]api.Point) face.Face { return face.Face{Rings: rings} }

func ask(kind int, l ...int) script.Item { return script.Item{Kind: kind, N: l} }

// lines is a script of these lines.
func lines(l ...string) string { return strings.Join(l, "\n") + "\n" }

// TestRun: P31.3.
func TestRun(t *testing.T) {
	for _, x := range []struct {
		name, s string
		want    []string
	}{
		{"the example", lines("face", "ring 0 0 40000 0 40000 40000 0 40000", "zooms 1", "locate 1 5 5 1", "near 1 0"), []string{"built 391 4 4", "level 1 present", "face 0", "near -"}},
		{"nothing", "", []string{"built 11 0 0"}}, {"a buffer", "buffer 5\n", []string{"built 11 0 0"}},
		{"small", lines("face", "ring 0 0 4 0 4 4 0 4", "zooms 2 0", "status 0", "status 2", "status 1", "status 9", "level 0", "level 2", "level 1", "tile 0 0 0"), []string{"built 139 1 1", "level 0 collapsed 9", "level 2 present", "collapsed", "present", "none", "none", "error 12", "level 1 4", "error 7", "error 12"}},
		{"a gap", lines("face", "ring 0 0 64 0 64 64 0 64", "face", "ring 65 0 128 0 128 64 65 64", "zooms 0"), []string{"built 21 0 0", "level 0 collapsed 12"}},
		{"no end", "face", []string{"error 4 at 0"}}, {"a wrong line", lines("face", "ring 1", "fance"), []string{"error 3 at 1"}}, {"a ring ahead", lines("buffer 1", "ring 1 1", "face"), []string{"error 7 at 1"}}, {"a buffer", lines("buffer -1"), []string{"error 5"}}, {"no ring", lines("face", "ring"), []string{"error 9"}}, {"twice", lines("zooms 1 1"), []string{"error 8"}},
	} {
		if got := Run(x.s); !slices.Equal(got, x.want) {
			t.Error(x.name, got)
		}
	}
}

// two is two boxes with a common edge.
func two() build.Input {
	return build.Input{Faces: []face.Face{of(box(0, 0, 40000, 40000)), of(box(40000, 0, 60000, 40000)), of(box(100, 50000, 104, 50004))}, Buffer: 64, Tol: 3, Zooms: []int{3, 0}}
}

// TestNew: P31.1.
func TestNew(t *testing.T) {
	in := two()
	w, err := New(in)
	b, _ := build.Build(in)
	if err != api.OK || !bytes.Equal(w.Bytes(), b) || w.Store() == nil || w.Store() != w.Store() || w.Store().Verify() != api.OK {
		t.Fatal(err)
	}
	in.Faces[0].Rings[0][0], in.Zooms[0] = p(9, 9), 77
	got := w.Input()
	if !face.Same(got.Faces, two().Faces) || got.Buffer != 64 || got.Tol != 3 || !slices.Equal(got.Zooms, []int{3, 0}) {
		t.Error("input", got)
	}
	got.Faces[0].Rings[0][0], got.Zooms[0] = p(9, 9), 77
	clear(w.Bytes())
	if !face.Same(w.Input().Faces, two().Faces) || w.Input().Zooms[0] != 3 || !bytes.Equal(w.Bytes(), b) {
		t.Error("shared")
	}
	for _, x := range []struct {
		in  build.Input
		err api.Errno
	}{{build.Input{Buffer: -1}, api.ErrRange}, {build.Input{Zooms: []int{1, 1}}, api.ErrTwice}, {build.Input{Faces: []face.Face{of(nil)}}, api.ErrRing}, {build.Input{Faces: []face.Face{of(ring.Turned(box(0, 0, 9, 9)))}}, api.ErrSide}} {
		if w, err := New(x.in); w != nil || err != x.err {
			t.Error(x, err)
		}
	}
	for s, b := range map[string][]byte{"-": {}, "00": {0}, "0a7fff10": {10, 127, 255, 16}} {
		if Hex(b) != s {
			t.Error(s, Hex(b))
		}
	}
	if Hex(nil) != "-" {
		t.Error("nil")
	}
}

// TestAsk: P31.2.
func TestAsk(t *testing.T) {
	w, _ := New(two())
	b, _ := w.Store().Get(window.Tile{Z: 3})
	var want []string
	var asked []script.Item
	for _, x := range []struct {
		it   script.Item
		want string
	}{
		{ask(script.Tile, 3, 0, 0), "tile " + Hex(b)}, {ask(script.Tile, 3, 7, 7), "tile -"}, {ask(script.Tile, 3, 8, 0), "error 5"}, {ask(script.Tile, 0, 0, 0), "error 12"}, {ask(script.Tile, 2, 0, 0), "error 7"},
		{ask(script.Locate, 3, 5, 5, 1), "face 0"}, {ask(script.Locate, 3, 41000, 5, 2), "face 1"}, {ask(script.Locate, 3, 40000, 5, 2), "border"}, {ask(script.Locate, 3, 5, 32768, 1), "none"}, {ask(script.Locate, 3, 5, 5, 65), "error 5"}, {ask(script.Locate, 3, -1, 5, 1), "error 5"}, {ask(script.Locate, 0, 5, 5, 1), "error 12"}, {ask(script.Locate, 1, 5, 5, 1), "error 7"},
		{ask(script.Near, 3, 0), "near - 1"}, {ask(script.Near, 3, 2), "near -"}, {ask(script.Near, 3, 3), "error 5"}, {ask(script.Near, 3, -1), "error 5"}, {ask(script.Near, 9, 0), "error 5"},
		{ask(script.Status, 3), "present"}, {ask(script.Status, 0), "collapsed"}, {ask(script.Status, 1), "none"}, {ask(script.Status, -5), "none"}, {ask(script.Level, 3), level3(w)}, {ask(script.Level, 0), "error 12"}, {ask(script.Level, 1), "error 7"}, {ask(script.Level, 5), "error 5"},
		{ask(script.Face), "error 14"}, {ask(script.Buffer, 1), "error 14"}, {ask(0), "error 14"}, {ask(99), "error 14"}, {ask(script.Tile, 1), "error 14"}, {ask(script.Level), "error 14"}, {ask(script.Level, 1<<61), "error 14"}, {script.Item{Kind: script.Attr, Key: "a", Value: value.Value{Kind: value.Bool}}, "error 14"}, {script.Item{Kind: script.Status, N: []int{3}, Key: "a"}, "error 14"},
	} {
		if got := w.Ask(x.it); got != x.want {
			t.Error(x, got)
		}
		asked, want = append(asked, x.it), append(want, x.want)
	}
	if got := w.Lines(asked...); !slices.Equal(got, want) || len(w.Lines()) != 0 {
		t.Error(got)
	}
}

// level3 is the line of the level 3.
func level3(w *World) string {
	arcs, points, _ := w.Store().Size(3)
	return "level " + text.Digits(arcs) + " " + text.Digits(points)
}

// TestNil: P31.4.
func TestNil(t *testing.T) {
	var w *World
	in := w.Input()
	if w.Ask(ask(script.Status, 1)) != "" || len(w.Lines(ask(script.Status, 1))) > 0 || len(w.Bytes()) > 0 || w.Store() != nil || len(in.Faces)+in.Buffer+in.Tol+len(in.Zooms) > 0 {
		t.Error("nil")
	}
}

// TestFollows: P31.3 by its words, and P31.4.
func TestFollows(t *testing.T) {
	r := sample.New(38)
	for i := range 60 {
		shape := sample.Shape{Size: 2 + i%4, Count: 1 + i%3, Step: 5 << r.Next(12), Low: p(3000, 3000)}
		shape.Jitter = shape.Step / 5
		in := build.Input{Faces: sample.Of(r, shape), Buffer: []int{0, 64}[i%2], Tol: r.Next(999), Zooms: []int{2, 0}}
		questions := []script.Item{ask(script.Locate, 2, r.Next(16384), r.Next(16384), 1), ask(script.Near, 2, 0), ask(script.Level, 2), ask(script.Tile, 2, r.Next(4), r.Next(4))}
		s, err := script.Print(append(script.Of(in), questions...)...)
		if err != api.OK {
			t.Fatal(err)
		}
		got := Run(s)
		w, err := New(in)
		if err != api.OK {
			if want := []string{"error " + text.Digits(int(err))}; !slices.Equal(got, want) {
				t.Fatal(s, got)
			}
			continue
		}
		archive, _ := pack.Open(w.Bytes())
		want := []string{"built " + text.Digits(len(w.Bytes())) + " " + text.Digits(archive.Len()) + " " + text.Digits(archive.Blobs())}
		for _, z := range []int{0, 2} {
			why, _ := level.Why(in.Faces, z, in.Buffer)
			if why == api.OK {
				want = append(want, "level "+text.Digits(z)+" present")
			} else {
				want = append(want, "level "+text.Digits(z)+" collapsed "+text.Digits(int(why)))
			}
		}
		if want = append(want, w.Lines(questions...)...); !slices.Equal(got, want) {
			t.Fatal(s, got, want)
		}
		if found, err := w.Store().Locate(2, p(questions[0].N[1], questions[0].N[2]), 1); err == api.OK && found == cover.None && got[3] != "none" {
			t.Fatal(s, got)
		}
		for range 20 {
			spoilt := []byte(s)
			spoilt[r.Next(len(spoilt))] = byte(r.Next(256))
			if got := Run(string(spoilt)); len(got) == 0 {
				t.Fatal("no lines", string(spoilt))
			}
		}
	}
}

// TestAnyBytes: an archive with bytes changed is refused, or answers.
func TestAnyBytes(t *testing.T) {
	r := sample.New(39)
	w, _ := New(two())
	opened := 0
	for range 2000 {
		b := w.Bytes()
		b[r.Next(len(b))] ^= byte(1 << r.Next(8))
		s, err := query.Open(b)
		if err != api.OK {
			continue
		}
		opened++
		if err := s.Verify(); err != api.OK && err != api.ErrMatch {
			t.Fatal(err)
		}
		for _, z := range s.Levels() {
			s.Locate(z, p(5, 5), 1)
			s.Neighbors(z, 0)
		}
	}
	if opened < 10 {
		t.Error("too few", opened)
	}
}
