package heap

import (
	"math"
	"math/rand"
	"slices"
	"testing"
)

// compare is the order that P5.2 tells.
func compare(a, b Entry) int {
	x, y := []int{a.Key, a.Tie, a.Sub}, []int{b.Key, b.Tie, b.Sub}
	return slices.Compare(x, y)
}

// TestExample: P5.1.
func TestExample(t *testing.T) {
	var h Heap
	if n := h.Push(Entry{2, 0, 0}, Entry{1, 5, 0}, Entry{1, 4, 9}); n != 3 {
		t.Error(n)
	}
	if e, ok := h.Top(); e != (Entry{1, 4, 9}) || !ok || h.Len() != 3 {
		t.Error(e, ok)
	}
	if e, ok := h.Pop(); e != (Entry{1, 4, 9}) || !ok || h.Len() != 2 {
		t.Error(e, ok)
	}
	if n := h.Drop(Entry{2, 0, 0}, Entry{2, 0, 0}, Entry{7, 7, 7}); n != 1 || h.Len() != 1 {
		t.Error(n)
	}
	if n := h.Push(); n != 1 {
		t.Error(n)
	}
	h.Pop()
	if e, ok := h.Pop(); e != (Entry{}) || ok {
		t.Error(e, ok)
	}
	if e, ok := h.Top(); e != (Entry{}) || ok || len(h.All()) != 0 {
		t.Error(e, ok)
	}
}

// TestLess: P5.2.
func TestLess(t *testing.T) {
	l := []Entry{{math.MinInt, 9, 9}, {-1, 0, 0}, {0, -1, 5}, {0, 0, math.MinInt}, {0, 0, 0}, {0, 0, 1}, {0, 1, 0}, {math.MaxInt, 0, 0}}
	for i := range l {
		for j := range l {
			if Less(l[i], l[j]) != (i < j) {
				t.Error(l[i], l[j])
			}
		}
	}
	back := slices.Clone(l)
	slices.Reverse(back)
	before := slices.Clone(back)
	if !slices.Equal(Sort(back...), l) || !slices.Equal(back, before) || len(Sort()) != 0 {
		t.Error("sort")
	}
}

// TestMany: P5.1 to P5.3, held against a sorted list.
func TestMany(t *testing.T) {
	r := rand.New(rand.NewSource(10))
	var h Heap
	var l []Entry
	for range 20000 {
		e := Entry{r.Intn(4), r.Intn(3), r.Intn(3)}
		switch r.Intn(7) {
		case 0, 1, 2:
			l = append(l, e)
			slices.SortFunc(l, compare)
			if h.Push(e) != len(l) {
				t.Fatal("push")
			}
		case 3, 4:
			got, ok := h.Pop()
			if ok != (len(l) > 0) || ok && got != l[0] {
				t.Fatal("pop", got, ok)
			}
			if ok {
				l = l[1:]
			}
		case 5:
			n := 0
			if i := slices.Index(l, e); i >= 0 {
				l = slices.Delete(slices.Clone(l), i, i+1)
				n = 1
			}
			if h.Drop(e) != n {
				t.Fatal("drop")
			}
		case 6:
			all := h.All()
			if !slices.Equal(all, l) {
				t.Fatal("all")
			}
			for i := range all {
				all[i] = Entry{-9, -9, -9}
			}
		}
		top, ok := h.Top()
		if h.Len() != len(l) || ok != (len(l) > 0) || ok && top != l[0] {
			t.Fatal("top", top, ok)
		}
	}
}

// TestNil: P5.3.
func TestNil(t *testing.T) {
	var h *Heap
	if h.Push(Entry{1, 1, 1}) != 0 || h.Drop(Entry{}) != 0 || h.Len() != 0 || len(h.All()) != 0 {
		t.Error("nil")
	}
	if e, ok := h.Pop(); e != (Entry{}) || ok {
		t.Error("pop")
	}
	if e, ok := h.Top(); e != (Entry{}) || ok {
		t.Error("top")
	}
}
