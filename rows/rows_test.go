package rows

import (
	"math"
	"math/rand"
	"slices"
	"testing"

	"graticule/api"
)

func p(x, y int) api.Point { return api.Point{X: x, Y: y} }

func box(a, b, c, d int) Box { return Box{p(a, b), p(c, d)} }

const b = api.Bound

// TestBoxes: P6.1.
func TestBoxes(t *testing.T) {
	if got, ok := Of(p(3, 1), p(1, 2)); got != box(1, 1, 3, 2) || !ok {
		t.Error(got, ok)
	}
	if got, ok := Of(); got != (Box{}) || ok {
		t.Error(got, ok)
	}
	if got, ok := Of(p(0, 0), p(b+1, 0)); got != (Box{}) || ok {
		t.Error(got, ok)
	}
	for _, x := range []struct {
		b     Box
		right bool
	}{{box(0, 0, 0, 0), true}, {box(-b, -b, b, b), true}, {box(1, 0, 0, 0), false}, {box(0, 1, 0, 0), false}, {box(0, 0, b+1, 0), false}, {box(0, -b-1, 0, 0), false}} {
		if Right(x.b) != x.right || Meet(x.b, x.b) != x.right {
			t.Error(x)
		}
	}
	for _, x := range []struct {
		a, b Box
		meet bool
	}{
		{box(0, 0, 2, 2), box(2, 2, 3, 3), true}, {box(0, 0, 2, 2), box(3, 0, 4, 2), false}, {box(0, 0, 2, 2), box(0, 3, 2, 4), false},
		{box(0, 0, 9, 9), box(3, 3, 4, 4), true}, {box(0, 4, 9, 5), box(4, 0, 5, 9), true}, {box(0, 0, 2, 2), box(2, 2, 1, 1), false},
	} {
		if Meet(x.a, x.b) != x.meet || Meet(x.b, x.a) != x.meet {
			t.Error(x)
		}
	}
}

// TestExample: P6.2.
func TestExample(t *testing.T) {
	x := New(box(0, 0, 2, 2), box(2, 2, 3, 3), box(5, 0, 6, 1))
	if got := x.Pairs(); !slices.Equal(got, [][2]int{{0, 1}}) {
		t.Error(got)
	}
	if got := x.At(p(2, 2)); !slices.Equal(got, []int{0, 1}) {
		t.Error(got)
	}
	if got, ok := x.Box(2); got != box(5, 0, 6, 1) || !ok {
		t.Error(got, ok)
	}
	if got, ok := x.Box(0); got != box(0, 0, 2, 2) || !ok {
		t.Error(got, ok)
	}
	for _, i := range []int{-1, 3, math.MinInt, math.MaxInt} {
		if got, ok := x.Box(i); got != (Box{}) || ok {
			t.Error(i)
		}
	}
	if len(x.At(p(b+1, 0))) != 0 || len(x.Find(box(1, 0, 0, 0))) != 0 {
		t.Error("what isn't right")
	}
	if x.Add() != 3 || x.Add(box(9, 9, 1, 1), box(0, 0, 2, 2)) != 5 || x.Len() != 5 {
		t.Error("more")
	}
	if got := x.Pairs(); !slices.Equal(got, [][2]int{{0, 1}, {0, 4}, {1, 4}}) {
		t.Error(got)
	}
	if got, ok := x.Box(3); got != box(9, 9, 1, 1) || !ok {
		t.Error("one that isn't right is there all the same")
	}
}

// some is a box of any size, seldom a wrong one.
func some(r *rand.Rand) Box {
	size := 1 << r.Intn(26)
	at := p(r.Intn(2*b+1)-b, r.Intn(2*b+1)-b)
	if r.Intn(2) == 0 {
		size, at = r.Intn(20), p(r.Intn(50), r.Intn(50))
	}
	return box(at.X, at.Y, min(b, at.X+r.Intn(size+1)), min(b, at.Y+r.Intn(size+2)-r.Intn(30)/29))
}

// TestMany: P6.2 and P6.3, held against all boxes, added at once and one by one.
func TestMany(t *testing.T) {
	r := rand.New(rand.NewSource(11))
	for range 60 {
		var l []Box
		step := New()
		for range r.Intn(150) {
			l = append(l, some(r))
			if step.Add(l[len(l)-1]) != len(l) {
				t.Fatal("add")
			}
		}
		x := New(l...)
		var pairs [][2]int
		for i := range l {
			for j := range i {
				if Meet(l[i], l[j]) {
					pairs = append(pairs, [2]int{j, i})
				}
			}
		}
		slices.SortFunc(pairs, func(a, b [2]int) int { return slices.Compare(a[:], b[:]) })
		if !slices.Equal(x.Pairs(), pairs) || !slices.Equal(step.Pairs(), pairs) {
			t.Fatal("pairs", l)
		}
		for range 50 {
			q := some(r)
			var want []int
			for i := range l {
				if Meet(l[i], q) {
					want = append(want, i)
				}
			}
			if !slices.Equal(x.Find(q), want) || !slices.Equal(step.Find(q), want) {
				t.Fatal("find", q, l)
			}
			if at := q.Low; !slices.Equal(x.At(at), x.Find(Box{at, at})) {
				t.Fatal("at", at)
			}
		}
	}
}

// TestNil: P6.3.
func TestNil(t *testing.T) {
	var x *Index
	if x.Add(box(0, 0, 1, 1)) != 0 || x.Len() != 0 || len(x.Find(box(0, 0, 1, 1))) != 0 || len(x.At(p(0, 0))) != 0 || len(x.Pairs()) != 0 {
		t.Error("nil")
	}
	if got, ok := x.Box(0); got != (Box{}) || ok {
		t.Error("box")
	}
	if New().Len() != 0 || len(New().Pairs()) != 0 {
		t.Error("none")
	}
}
