// Package sample makes coverages for tests, from a number: the same ones from the same number.
package sample

import (
	"graticule/api"
	"graticule/face"
	"graticule/table"
	"graticule/value"
)

// Row is numbers that look like chance, one behind the other, from a first one on.
type Row struct{ at uint64 }

// New is a row that begins with a number.
func New(first int) *Row {
	r := &Row{uint64(first)}
	r.Next(1)
	return r
}

// Next is the next number, from 0 to n - 1.
func (r *Row) Next(n int) int {
	r.at = r.at*6364136223846793005 + 1442695040888963407
	return int(r.at>>33) % n
}

// Shape says how a coverage is made: of fields in a square, size each way, step units wide, each of one of count faces, or of none; their corners are moved by jitter units at most, or, if Plain, those that aren't needed go.
type Shape struct {
	Size, Count, Step, Jitter int
	Low                       api.Point
	Plain                     bool
}

// grid tells of each field its face, None of none.
type grid struct {
	size   int
	fields []int
}

// none is what a field without a face has.
const none = -1

// at is the face of a field, none beyond the border.
func (g grid) at(x, y int) int {
	if x < 0 || y < 0 || x >= g.size || y >= g.size {
		return none
	}
	return g.fields[y*g.size+x]
}

// Of is a coverage. Some fields have the face of the one to the left or below, so that faces hang together.
func Of(r *Row, s Shape) []face.Face {
	g := grid{s.Size, make([]int, s.Size*s.Size)}
	for i := range g.fields {
		g.fields[i] = r.Next(s.Count+1) - 1
		switch r.Next(4) {
		case 0:
			g.fields[i] = g.at(i%s.Size-1, i/s.Size)
		case 1:
			g.fields[i] = g.at(i%s.Size, i/s.Size-1)
		}
	}
	var out []face.Face
	for f := range s.Count {
		out = append(out, face.Face{Rings: g.rings(f), Attrs: []table.Attr{
			{Key: "number", Value: value.Value{Kind: value.Uint, N: f}},
			{Key: "even", Value: value.Value{Kind: value.Bool, N: (f + 1) % 2}},
		}})
	}
	if s.Plain {
		plain(out)
	}
	place(r, s, out)
	return out
}

// rings are those of a face, by the numbers of the fields.
func (g grid) rings(f int) [][]api.Point {
	next := map[api.Point][]api.Point{}
	var begins []api.Point
	for i, owner := range g.fields {
		if owner != f {
			continue
		}
		for _, e := range g.open(i%g.size, i/g.size) {
			next[e[0]] = append(next[e[0]], e[1])
			begins = append(begins, e[0])
		}
	}
	var out [][]api.Point
	for _, p := range begins {
		for len(next[p]) > 0 {
			out = append(out, walk(next, p)...)
		}
	}
	return out
}

// open are the edges of a field beyond which its face ends, gone so that it lies to the left.
func (g grid) open(x, y int) [][2]api.Point {
	corners := []api.Point{{X: x, Y: y}, {X: x + 1, Y: y}, {X: x + 1, Y: y + 1}, {X: x, Y: y + 1}}
	beyond := []int{g.at(x, y-1), g.at(x+1, y), g.at(x, y+1), g.at(x-1, y)}
	var out [][2]api.Point
	for i, other := range beyond {
		if other != g.at(x, y) {
			out = append(out, [2]api.Point{corners[i], corners[(i+1)%4]})
		}
	}
	return out
}

// walk goes from p on till it is there again; where it comes to a point anew, what lies between is a ring of its own.
func walk(next map[api.Point][]api.Point, p api.Point) [][]api.Point {
	var out [][]api.Point
	way := []api.Point{p}
	for len(way) > 0 {
		last := way[len(way)-1]
		ends := next[last]
		to := ends[0]
		next[last] = ends[1:]
		met := -1
		for i, q := range way {
			if q == to {
				met = i
			}
		}
		if met < 0 {
			way = append(way, to)
			continue
		}
		out = append(out, append([]api.Point(nil), way[met:]...))
		way = way[:met]
		if met > 0 {
			way = append(way, to)
		}
	}
	return out
}

// plain takes away points that lie straight between the two points that they are joined with.
func plain(l []face.Face) {
	joined := map[api.Point]map[api.Point]bool{}
	for _, s := range face.Sides(l...) {
		for _, e := range [][2]api.Point{{s.A, s.B}, {s.B, s.A}} {
			if joined[e[0]] == nil {
				joined[e[0]] = map[api.Point]bool{}
			}
			joined[e[0]][e[1]] = true
		}
	}
	for _, f := range l {
		for i, r := range f.Rings {
			var left []api.Point
			for j, p := range r {
				before, behind := r[(j+len(r)-1)%len(r)], r[(j+1)%len(r)]
				straight := before.X == behind.X || before.Y == behind.Y
				if len(joined[p]) != 2 || !straight {
					left = append(left, p)
				}
			}
			f.Rings[i] = left
		}
	}
}

// place puts all points where they belong, the same ones at the same place.
func place(r *Row, s Shape, l []face.Face) {
	met := map[api.Point]api.Point{}
	for _, f := range l {
		for _, points := range f.Rings {
			for i, p := range points {
				at, ok := met[p]
				if !ok {
					at = api.Point{X: s.Low.X + p.X*s.Step + jitter(r, s), Y: s.Low.Y + p.Y*s.Step + jitter(r, s)}
					met[p] = at
				}
				points[i] = at
			}
		}
	}
}

// jitter is how far a number of a point is moved.
func jitter(r *Row, s Shape) int {
	return r.Next(2*s.Jitter+1) - s.Jitter
}
