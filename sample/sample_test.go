package sample

import (
	"testing"

	"graticule/api"
	"graticule/cover"
	"graticule/face"
)

// TestOf: what is made is a coverage, the same one from the same number.
func TestOf(t *testing.T) {
	r, again := New(1), New(1)
	for i := range 300 {
		s := Shape{Size: 2 + i%6, Count: 1 + i%5, Step: 8, Plain: i%2 == 0, Low: api.Point{X: i, Y: 3}}
		if !s.Plain {
			s.Jitter = 2
		}
		l := Of(r, s)
		if err := cover.Valid(l...); err != api.OK {
			t.Fatal(s, l, err)
		}
		if !face.Same(l, Of(again, s)) {
			t.Fatal("unlike", s)
		}
	}
}
