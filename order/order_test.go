package order

import (
	"math"
	"math/rand"
	"slices"
	"testing"

	"graticule/api"
	"graticule/exact"
)

func p(x, y int) api.Point { return api.Point{X: x, Y: y} }

// TestPoints: P4.1 and P4.3.
func TestPoints(t *testing.T) {
	if len(Points()) != 0 {
		t.Error("none")
	}
	l := []api.Point{p(2, 1), p(1, 9), p(2, 0), p(1, 9), p(-1, math.MaxInt), p(math.MinInt, 0)}
	before := slices.Clone(l)
	got := Points(l...)
	if !slices.Equal(got, []api.Point{p(math.MinInt, 0), p(-1, math.MaxInt), p(1, 9), p(1, 9), p(2, 0), p(2, 1)}) || !slices.Equal(l, before) {
		t.Error(got, l)
	}
	one := []api.Point{p(1, 1)}
	if Points(one...)[0] = p(2, 2); one[0] != p(1, 1) {
		t.Error("shared")
	}
	r := rand.New(rand.NewSource(8))
	for n := range 200 {
		l = nil
		for range n {
			l = append(l, p(r.Intn(9), r.Intn(9)))
		}
		want := slices.Clone(l)
		slices.SortFunc(want, func(a, b api.Point) int {
			if exact.Less(a, b) {
				return -1
			}
			return 1
		})
		back := slices.Clone(l)
		slices.Reverse(back)
		if !slices.Equal(Points(l...), want) || !slices.Equal(Points(back...), want) {
			t.Fatal(l)
		}
	}
}

// TestRows: P4.1.
func TestRows(t *testing.T) {
	if got := Rows([]int{2}, []int{1, 9}, []int{1}, nil); !slices.Equal(got, []int{3, 2, 1, 0}) {
		t.Error("the example", got)
	}
	if got := Rows([]int{5}, []int{}, []int{5}, nil, []int{math.MinInt}, []int{5}); !slices.Equal(got, []int{1, 3, 4, 0, 2, 5}) {
		t.Error("like rows", got)
	}
	if len(Rows()) != 0 {
		t.Error("none")
	}
	for _, x := range []struct {
		a, b []int
		way  int
	}{{nil, nil, 0}, {nil, []int{}, 0}, {nil, []int{1}, -1}, {[]int{1, 2}, []int{1, 2}, 0}, {[]int{1, 2}, []int{1, 3}, -1}, {[]int{1, 2}, []int{1}, 1}, {[]int{math.MaxInt}, []int{math.MinInt, 5}, 1}} {
		if Compare(x.a, x.b) != x.way || Compare(x.b, x.a) != -x.way {
			t.Error(x)
		}
	}
}

// TestUniq: P4.1, and Merge of P4.2.
func TestUniq(t *testing.T) {
	l := []int{5, 1, 5, math.MaxInt, math.MinInt, 1, 0}
	if got := Uniq(l...); !slices.Equal(got, []int{math.MinInt, 0, 1, 5, math.MaxInt}) || l[0] != 5 || l[1] != 1 {
		t.Error(got, l)
	}
	if len(Uniq()) != 0 || !slices.Equal(Uniq(3, 3, 3), []int{3}) {
		t.Error("edges")
	}
	if got := Merge([]int{1, 1, 4}, []int{0, 1, 5}); !slices.Equal(got, []int{0, 1, 1, 1, 4, 5}) {
		t.Error(got)
	}
	a := []int{1, 2}
	got := Merge(a, nil)
	if got[0] = 9; len(Merge(nil, nil)) != 0 || a[0] != 1 || !slices.Equal(Merge(nil, a), a) {
		t.Error("edges")
	}
	Merge([]int{3, 1}, []int{2, 0})
}

// TestFind: P4.2 and P4.3.
func TestFind(t *testing.T) {
	l := []int{4, 4, 8}
	for _, x := range []struct {
		n, place int
		is       bool
		low, top int
	}{{3, 0, false, 0, 0}, {4, 0, true, 0, 2}, {5, 2, false, 2, 2}, {8, 2, true, 2, 3}, {9, 3, false, 3, 3}, {math.MaxInt, 3, false, 3, 3}, {math.MinInt, 0, false, 0, 0}} {
		place, is := Find(l, x.n)
		low, top := Strips(l, x.n)
		if place != x.place || is != x.is || low != x.low || top != x.top {
			t.Error(x, place, is, low, top)
		}
	}
	if place, is := Find(nil, 1); place != 0 || is {
		t.Error("no numbers")
	}
	if low, top := Strips([]int{4, 8}, 4); low != 0 || top != 1 {
		t.Error("the example")
	}
	if low, top := Strips([]int{4, 8}, 5); low != 1 || top != 1 {
		t.Error("the example")
	}
	if low, top := Strips([]int{math.MaxInt}, math.MaxInt); low != 0 || top != 1 {
		t.Error("the greatest")
	}
	if !Common([]int{4, 8}, 4, 8) || Common([]int{4, 8}, 3, 5) || !Common(nil, 3, 5) {
		t.Error("the example")
	}
	Find([]int{3, 1, 2}, 2)
	Strips([]int{3, 1, 2}, 2)
}

// TestCommon: P4.3.
func TestCommon(t *testing.T) {
	r := rand.New(rand.NewSource(9))
	for range 5000 {
		var l []int
		for range r.Intn(5) {
			l = append(l, r.Intn(9))
		}
		slices.Sort(l)
		a, b := r.Intn(9), r.Intn(9)
		want := true
		for _, c := range l {
			if a < c && c < b || b < c && c < a {
				want = false
			}
		}
		if Common(l, a, b) != want {
			t.Fatal(l, a, b)
		}
	}
}
