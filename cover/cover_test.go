package cover

import (
	"slices"
	"testing"

	"graticule/api"
	"graticule/face"
	"graticule/ring"
	"graticule/sample"
	"graticule/seg"
	"graticule/table"
)

func p(x, y int) api.Point { return api.Point{X: x, Y: y} }

func box(a, b, c, d int) []api.Point { return []api.Point{p(a, b), p(c, b), p(c, d), p(a, d)} }

func hole(a, b, c, d int) []api.Point { return ring.Turned(box(a, b, c, d)) }

func of(rings ...[]api.Point) face.Face { return face.Face{Rings: rings} }

// TestValid: P13.1.
func TestValid(t *testing.T) {
	outer := of(box(0, 0, 20, 20), hole(5, 5, 9, 9))
	bow := []api.Point{p(0, 0), p(4, 4), p(4, 0), p(0, 4)}
	for _, x := range []struct {
		name string
		l    []face.Face
		err  api.Errno
	}{
		{"nothing", nil, api.OK}, {"no rings", []face.Face{of(), of()}, api.OK},
		{"two boxes", []face.Face{of(box(0, 0, 4, 4)), of(box(4, 0, 8, 4))}, api.OK},
		{"a point more", []face.Face{of(box(0, 0, 4, 4)), of([]api.Point{p(4, 0), p(8, 0), p(8, 4), p(4, 4), p(4, 2)})}, api.ErrMatch},
		{"a box within", []face.Face{of(box(0, 0, 20, 20)), of(box(5, 5, 9, 9))}, api.ErrSide},
		{"a box in a hole", []face.Face{outer, of(box(5, 5, 9, 9))}, api.OK}, {"a hole", []face.Face{outer}, api.OK}, {"a hole alone", []face.Face{of(hole(5, 5, 9, 9))}, api.ErrSide},
		{"no ring", []face.Face{of(nil)}, api.ErrRing}, {"a bow", []face.Face{of(bow)}, api.ErrRing}, {"a bow behind", []face.Face{of(box(0, 0, 20, 20)), of(box(10, 10, 30, 30)), of(box(50, 50, 60, 60), bow)}, api.ErrRing},
		{"may not be", []face.Face{of(box(0, 0, api.Bound+1, 4))}, api.ErrRing},
		{"crossing", []face.Face{of(box(0, 0, 20, 20)), of(box(10, 10, 30, 30))}, api.ErrMatch}, {"crossing, and twice", []face.Face{of(box(0, 0, 20, 20)), of(box(0, 0, 20, 20)), of(box(10, 10, 30, 30))}, api.ErrMatch},
		{"twice", []face.Face{of(box(0, 0, 20, 20)), of(box(0, 0, 20, 20))}, api.ErrTwice}, {"twice in one", []face.Face{of(box(0, 0, 20, 20), box(0, 0, 20, 20))}, api.ErrTwice}, {"twice, and to the right", []face.Face{of(hole(50, 50, 60, 60)), of(box(0, 0, 20, 20), box(0, 0, 20, 20))}, api.ErrTwice},
		{"both ways in one", []face.Face{of(box(0, 0, 20, 20), hole(0, 0, 20, 20))}, api.ErrSide}, {"both ways in two", []face.Face{of(box(0, 0, 20, 20)), of(hole(0, 0, 20, 20))}, api.ErrSide},
		{"two boxes of one face", []face.Face{of(box(0, 0, 4, 4), box(4, 0, 8, 4))}, api.ErrSide}, {"touching in a point", []face.Face{of(box(0, 0, 4, 4), box(4, 4, 8, 8)), of(box(4, 0, 8, 4))}, api.OK},
		{"a hole that touches", []face.Face{of(box(0, 0, 20, 20), []api.Point{p(0, 0), p(5, 9), p(9, 5)})}, api.OK},
		{"below 0", []face.Face{of(box(-9, -9, -4, -4))}, api.OK},
	} {
		if err := Valid(x.l...); err != x.err || naive(x.l) != x.err {
			t.Error(x.name, err, naive(x.l))
		}
	}
	long := make([]api.Point, api.MaxPoints)
	if err := Valid(of(long), of(nil)); err != api.ErrRing {
		t.Error("many points", err)
	}
	if err := Valid(of(long), of(long[:1])); err != api.ErrMany {
		t.Error("too many points", err)
	}
}

// TestCheck: P13.1.
func TestCheck(t *testing.T) {
	for _, x := range []struct {
		l   []face.Face
		err api.Errno
	}{
		{nil, api.OK}, {[]face.Face{of(box(0, 0, 4, 4))}, api.OK}, {make([]face.Face, 33), api.ErrMany},
		{[]face.Face{of(box(-1, 0, 4, 4), nil)}, api.ErrRange}, {[]face.Face{of(nil), {Attrs: []table.Attr{{}}}}, api.ErrText}, {[]face.Face{of(nil)}, api.ErrRing},
	} {
		if err := Check(x.l...); err != x.err {
			t.Error(x, err)
		}
	}
}

// naive is Valid by the words of the chapter alone.
func naive(l []face.Face) api.Errno {
	sides := face.Sides(l...)
	for _, f := range l {
		for _, r := range f.Rings {
			if !ring.Simple(r) {
				return api.ErrRing
			}
		}
	}
	for i, s := range sides {
		for _, o := range sides[:i] {
			class, _ := seg.Class(s.A, s.B, o.A, o.B)
			if (s.Face != o.Face || s.Ring != o.Ring) && class != seg.Apart && class != seg.Touch && class != seg.Same {
				return api.ErrMatch
			}
		}
	}
	for i, s := range sides {
		for _, o := range sides[:i] {
			if s.A == o.A && s.B == o.B {
				return api.ErrTwice
			}
		}
	}
	for _, s := range sides {
		for i, f := range l {
			count, back := 0, 0
			for _, r := range f.Rings {
				n, _ := ring.Beside(r, s.A, s.B)
				m, _ := ring.Beside(r, s.B, s.A)
				count, back = count+n, back+m
			}
			if i == s.Face && (count != 1 || back != 0) || i != s.Face && count != 0 {
				return api.ErrSide
			}
		}
	}
	return api.OK
}

// spoilt changes something of faces.
func spoilt(r *sample.Row, l []face.Face) []face.Face {
	l = face.Copy(l...)
	f := &l[r.Next(len(l))]
	if len(f.Rings) == 0 {
		return l
	}
	i := r.Next(len(f.Rings))
	points := f.Rings[i]
	j := r.Next(len(points))
	switch r.Next(6) {
	case 0:
		points[j] = p(points[j].X+r.Next(3)-1, points[j].Y+r.Next(3)-1)
	case 1:
		f.Rings[i] = slices.Delete(points, j, j+1)
	case 2:
		f.Rings[i] = ring.Turned(points)
	case 3:
		f.Rings = slices.Delete(f.Rings, i, i+1)
	case 4:
		g := &l[r.Next(len(l))]
		g.Rings = append(g.Rings, points)
		if r.Next(2) == 0 {
			f.Rings = slices.Delete(f.Rings, i, i+1)
		}
	case 5:
		f.Rings = append(f.Rings, []api.Point{points[j], p(points[j].X+1, points[j].Y), p(points[j].X, points[j].Y+1)})
	}
	return l
}

// TestMany: P13.1 by its words, of coverages and of what is spoilt; P13.4.
func TestMany(t *testing.T) {
	r := sample.New(17)
	counts := map[api.Errno]int{}
	for i := range 600 {
		l := sample.Of(r, sample.Shape{Size: 2 + r.Next(4), Count: 1 + r.Next(4), Step: 2 + r.Next(8), Jitter: r.Next(2), Plain: i%2 == 0})
		if i%2 == 0 {
			l = sample.Of(r, sample.Shape{Size: 2 + r.Next(4), Count: 1 + r.Next(4), Step: 1 + r.Next(8), Plain: true})
		}
		if i%3 > 0 {
			l = spoilt(r, l)
		}
		err := Valid(l...)
		counts[err]++
		if want := naive(l); err != want {
			t.Fatal(l, err, want)
		}
		begun := face.Copy(l...)
		slices.Reverse(begun)
		for _, f := range begun {
			slices.Reverse(f.Rings)
			for j := range f.Rings {
				f.Rings[j] = ring.Moved(ring.First(f.Rings[j]), p(-77, 5))
			}
		}
		if Valid(begun...) != err {
			t.Fatal("told otherwise", l, err)
		}
		if err == api.OK && Valid(l[1:]...) != api.OK {
			t.Fatal("without one", l)
		}
	}
	for _, e := range []api.Errno{api.OK, api.ErrRing, api.ErrMatch, api.ErrTwice, api.ErrSide} {
		if counts[e] < 10 {
			t.Error("too few", e, counts[e])
		}
	}
}

// TestNear: P13.2.
func TestNear(t *testing.T) {
	two := []face.Face{of(box(0, 0, 4, 4)), of(box(4, 0, 8, 4))}
	for _, x := range []struct {
		l    []face.Face
		near [][]int
	}{
		{nil, nil}, {[]face.Face{of()}, [][]int{nil}}, {two, [][]int{{None, 1}, {None, 0}}},
		{[]face.Face{of(box(0, 0, 20, 20), hole(5, 5, 9, 9)), of(box(5, 5, 9, 9))}, [][]int{{None, 1}, {0}}},
		{[]face.Face{of(box(0, 0, 4, 4)), of(box(4, 4, 8, 8))}, [][]int{{None}, {None}}},
		{[]face.Face{of(box(0, 0, 4, 4), hole(0, 0, 4, 4))}, [][]int{{None}}},
		{[]face.Face{of(box(0, 0, 4, 4)), of(hole(0, 0, 4, 4)), of(hole(0, 0, 4, 4)), of(box(0, 0, 4, 4))}, [][]int{{1, 2}, {0, 3}, {0, 3}, {1, 2}}},
		{[]face.Face{of([]api.Point{p(1, 1)}), of([]api.Point{p(1, 1)}), of([]api.Point{p(2, 1)})}, [][]int{{1}, {0}, {None}}},
	} {
		if got := Near(x.l...); !slices.EqualFunc(got, x.near, slices.Equal[[]int]) {
			t.Error(x, got)
		}
	}
}

// TestAlike: P13.2.
func TestAlike(t *testing.T) {
	two := []face.Face{of(box(0, 0, 4, 4)), of(box(4, 0, 8, 4))}
	other := []face.Face{of(box(0, 0, 1, 9)), of(box(1, 0, 2, 9))}
	for _, x := range []struct {
		name  string
		a, b  []face.Face
		alike bool
	}{
		{"nothing", nil, nil, true}, {"two", two, other, true}, {"one more", two, append(slices.Clone(two), of()), false}, {"apart", two, []face.Face{two[0], of(box(5, 0, 8, 4))}, false},
		{"rings", []face.Face{of(box(0, 0, 9, 9))}, []face.Face{of(box(0, 0, 9, 9), box(20, 20, 30, 30))}, false},
		{"nests", []face.Face{of(box(0, 0, 9, 9), box(20, 0, 29, 9), hole(1, 1, 2, 2))}, []face.Face{of(box(0, 0, 9, 9), box(20, 0, 29, 9), hole(21, 1, 22, 2))}, false},
		{"the same nest", []face.Face{of(box(0, 0, 9, 9), box(20, 0, 29, 9), hole(1, 1, 2, 2))}, []face.Face{of(box(0, 0, 9, 9), box(20, 0, 29, 9), hole(4, 4, 5, 5))}, true},
		{"no nest", []face.Face{of(hole(0, 0, 9, 9))}, []face.Face{of(hole(0, 0, 9, 9))}, false}, {"one nest", []face.Face{of(box(0, 0, 9, 9))}, []face.Face{of(hole(0, 0, 9, 9))}, false},
	} {
		if Alike(x.a, x.b) != x.alike || Alike(x.b, x.a) != x.alike {
			t.Error(x.name)
		}
	}
}

// TestLocate: P13.3 and P13.4.
func TestLocate(t *testing.T) {
	l := []face.Face{of(box(0, 0, 20, 20), hole(5, 5, 9, 9)), of(), of(box(20, 0, 30, 20))}
	over := []face.Face{of(hole(0, 0, 9, 9)), of(box(0, 0, 9, 9)), of(box(0, 0, 20, 20))}
	far := append(slices.Clone(l), of([]api.Point{p(0, api.Bound+1)}))
	for _, x := range []struct {
		p   api.Point
		l   []face.Face
		got int
	}{
		{p(1, 1), l, 0}, {p(6, 6), l, None}, {p(25, 5), l, 2}, {p(20, 5), l, Border}, {p(5, 5), l, Border}, {p(99, 5), l, None}, {p(1, 1), nil, None},
		{p(api.Bound+1, 0), l, None}, {p(1, 1), far, None}, {p(0, 0), far, None},
		{p(3, 3), over, 1}, {p(15, 3), over, 2}, {p(9, 3), over, Border}, {p(3, 3), over[:1], None}, {p(1, 1), []face.Face{of([]api.Point{p(1, 1)})}, Border},
	} {
		if got := Locate(x.p, x.l...); got != x.got {
			t.Error(x, got)
		}
	}
	if None != -1 || Border != -2 {
		t.Error("numbers")
	}
	r := sample.New(18)
	for range 60 {
		l := sample.Of(r, sample.Shape{Size: 4, Count: 3, Step: 5, Jitter: 1})
		for x := range 20 {
			for y := range 20 {
				count := 0
				on := false
				for i, f := range l {
					n, ok := face.Winding(f, p(x, y))
					on = on || !ok
					count += n
					if n < 0 || n > 1 || n == 1 && !on && Locate(p(x, y), l...) != i && Locate(p(x, y), l...) != Border {
						t.Fatal(l, x, y)
					}
				}
				if got := Locate(p(x, y), l...); on != (got == Border) || !on && (count > 1 || count == 0 != (got == None)) {
					t.Fatal(l, x, y, got)
				}
			}
		}
	}
}

// TestGreat: a coverage of many thousand edges is looked at in little time.
func TestGreat(t *testing.T) {
	l := sample.Of(sample.New(19), sample.Shape{Size: 90, Count: 30, Step: 700, Jitter: 100})
	if err := Valid(l...); err != api.OK {
		t.Error(err)
	}
}
