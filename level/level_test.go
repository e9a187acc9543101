package level

import (
	"testing"

	"graticule/api"
	"graticule/cover"
	"graticule/face"
	"graticule/ring"
	"graticule/sample"
	"graticule/snap"
	"graticule/table"
	"graticule/value"
)

func p(x, y int) api.Point { return api.Point{X: x, Y: y} }

func box(a, b, c, d int) []api.Point { return []api.Point{p(a, b), p(c, b), p(c, d), p(a, d)} }

func of1(rings ...[]api.Point) face.Face { return face.Face{Rings: rings} }

func same(a, b Level) bool {
	return a.Zoom == b.Zoom && a.Buffer == b.Buffer && a.Status == b.Status && face.Same(a.Faces, b.Faces)
}

// TestOf: P17.1 and P17.2, of single levels.
func TestOf(t *testing.T) {
	small := []face.Face{of1(box(0, 0, 4, 4))}
	gap := []face.Face{of1(box(0, 0, 64, 64)), of1(box(65, 0, 128, 64))}
	attrs := []table.Attr{{Key: "a", Value: value.Value{Kind: value.Bool, N: 1}}}
	for _, x := range []struct {
		name      string
		l         []face.Face
		z, buffer int
		want      Level
		why, err  api.Errno
	}{
		{"small", small, 0, 5, Level{0, 5, Collapsed, nil}, api.ErrRing, api.OK},
		{"small, greater", small, 2, 5, Level{2, 5, Present, []face.Face{of1(box(0, 0, 1, 1))}}, api.OK, api.OK},
		{"nothing", nil, 0, 0, Level{0, 0, Present, nil}, api.OK, api.OK},
		{"attributes", []face.Face{{Rings: [][]api.Point{box(0, 0, 64, 64)}, Attrs: attrs}}, 0, 0, Level{0, 0, Present, []face.Face{{Rings: [][]api.Point{box(0, 0, 4, 4)}, Attrs: attrs}}}, api.OK, api.OK},
		{"a gap", gap, 0, 0, Level{0, 0, Collapsed, nil}, api.ErrCollapsed, api.OK},
		{"a gap, greater", gap, 4, 0, Level{4, 0, Present, gap}, api.OK, api.OK},
		{"crossing", []face.Face{of1([]api.Point{p(0, 0), p(160, 0), p(80, 7)}), of1([]api.Point{p(76, 8), p(84, 8), p(80, 64)})}, 0, 0, Level{0, 0, Collapsed, nil}, api.ErrRing, api.OK},
		{"over one another", []face.Face{of1(box(0, 0, 160, 7)), of1(box(0, 8, 160, 64))}, 3, 0, Level{3, 0, Collapsed, nil}, api.ErrCollapsed, api.OK},
		{"of one height", []face.Face{of1([]api.Point{p(0, 0), p(320, 0), p(320, 10), p(0, 9)}), of1([]api.Point{p(160, 16), p(320, 16), p(320, 64), p(160, 64)})}, 0, 0, Level{0, 0, Collapsed, nil}, api.ErrMatch, api.OK},
		{"no level", []face.Face{of1(nil)}, 5, 0, Level{}, api.OK, api.ErrRange}, {"no level", nil, -1, 0, Level{}, api.OK, api.ErrRange}, {"no buffer", nil, 0, 2048, Level{}, api.OK, api.ErrRange}, {"no buffer", nil, 0, -1, Level{}, api.OK, api.ErrRange},
		{"no ring", []face.Face{of1(nil)}, 4, 0, Level{}, api.OK, api.ErrRing}, {"many", make([]face.Face, 33), 4, 0, Level{}, api.OK, api.ErrMany}, {"far", []face.Face{of1(box(0, 0, 1, 65537))}, 4, 0, Level{}, api.OK, api.ErrRange},
		{"to the right", []face.Face{of1(ring.Turned(box(0, 0, 9, 9)))}, 4, 0, Level{}, api.OK, api.ErrSide},
	} {
		got, err := Of(x.l, x.z, x.buffer)
		why, wrong := Why(x.l, x.z, x.buffer)
		if !same(got, x.want) || err != x.err || why != x.why || wrong != x.err {
			t.Error(x.name, got, err, why, wrong)
		}
	}
}

// TestAll: P17.1.
func TestAll(t *testing.T) {
	small := []face.Face{of1(box(0, 0, 4, 4))}
	got, err := All(small, 3, 2, 0, 2)
	if err != api.OK || len(got) != 3 || got[0].Status != Present || got[0].Zoom != 2 || got[1].Status != Collapsed || got[2].Status != Present {
		t.Error(got, err)
	}
	got[0].Faces[0].Rings[0][0] = p(9, 9)
	if got[2].Faces[0].Rings[0][0] != p(0, 0) {
		t.Error("shared")
	}
	for _, x := range []struct {
		l      []face.Face
		buffer int
		zooms  []int
		err    api.Errno
	}{{small, 3, []int{2, 5}, api.ErrRange}, {small, -1, []int{2}, api.ErrRange}, {[]face.Face{of1(nil)}, 0, []int{1, 5}, api.ErrRing}, {[]face.Face{of1(nil)}, 0, []int{5, 1}, api.ErrRange}, {[]face.Face{of1(nil)}, 0, nil, api.OK}, {small, 0, nil, api.OK}} {
		if got, err := All(x.l, x.buffer, x.zooms...); len(got) > 0 || err != x.err {
			t.Error(x, got, err)
		}
	}
}

// TestLeast: P17.2.
func TestLeast(t *testing.T) {
	for _, x := range []struct {
		l         []face.Face
		buffer, z int
		err       api.Errno
	}{
		{nil, 0, 0, api.OK}, {[]face.Face{of1(box(0, 0, 4, 4))}, 9, 1, api.OK}, {[]face.Face{of1(box(0, 0, 1, 1))}, 9, 3, api.OK},
		{nil, -1, -1, api.ErrRange}, {[]face.Face{of1(nil)}, 2048, -1, api.ErrRange}, {[]face.Face{of1(nil)}, 0, -1, api.ErrRing},
		{thinned(), 2047, -1, api.ErrCollapsed},
	} {
		if z, err := Least(x.l, x.buffer); z != x.z || err != x.err {
			t.Error(x, z, err)
		}
	}
	for s, w := range map[int]string{Present: "present", Collapsed: "collapsed", 0: "", 3: "", -1: ""} {
		if Word(s) != w {
			t.Error(s)
		}
	}
	if Present != 1 || Collapsed != 2 {
		t.Error("numbers")
	}
}

// thinned is two long thin faces, next to each other, whose cuts by lines come to the same points at each level.
func thinned() []face.Face {
	return []face.Face{of1([]api.Point{p(0, 0), p(65536, 1), p(65536, 2)}), of1([]api.Point{p(0, 1), p(65536, 3), p(65536, 4)})}
}

// TestFollows: P17.3.
func TestFollows(t *testing.T) {
	r := sample.New(23)
	counts := map[int]int{}
	for i := range 150 {
		shape := sample.Shape{Size: 2 + i%5, Count: 1 + i%4, Step: 1 << r.Next(13), Plain: i%2 == 0, Low: p(r.Next(99), r.Next(99))}
		if i%2 == 1 {
			shape.Step = 8 + r.Next(9000)
			shape.Jitter = shape.Step / 4
			shape.Low = p(shape.Step, shape.Step)
		}
		l := sample.Of(r, shape)
		if cover.Check(l...) != api.OK {
			continue
		}
		for z := range 5 {
			buffer := []int{0, 64, 2047}[r.Next(3)]
			got, err := Of(l, z, buffer)
			why, _ := Why(l, z, buffer)
			at, _ := snap.Faces(l, z, buffer)
			counts[got.Status]++
			present := cover.Valid(at...) == api.OK && cover.Alike(l, at)
			if err != api.OK || present != (got.Status == Present) || present != (why == api.OK) || present && !face.Same(got.Faces, at) || !present && len(got.Faces) > 0 {
				t.Fatal(l, z, buffer, got, err)
			}
			if snap.Exact(l, z) && !present {
				t.Fatal("exact", l, z, buffer)
			}
			if z == 4 && buffer == 0 {
				for j, f := range l {
					for k := range f.Rings {
						for _, q := range f.Rings[k] {
							met := false
							for _, o := range at[j].Rings[k] {
								met = met || o == q
							}
							if !met {
								t.Fatal("moved", l)
							}
						}
					}
				}
			}
		}
	}
	if counts[Present] < 50 || counts[Collapsed] < 50 {
		t.Error("too few", counts)
	}
}
