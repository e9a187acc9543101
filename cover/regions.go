package cover

import (
	"slices"

	"graticule/api"
	"graticule/exact"
	"graticule/face"
	"graticule/ring"
	"graticule/rows"
)

// regions go along edges that meet at ends alone: what lies to the left of an edge lies to the left of the one that it goes on with, too.
type regions struct {
	around map[api.Point][]api.Point // what each point is joined with, to the left around it
	places map[way]int               // where, around its first point, an edge's second one stands
}

// regionsOf are those of edges, none of them twice.
func regionsOf(edges []way) regions {
	r := regions{map[api.Point][]api.Point{}, map[way]int{}}
	for _, e := range edges {
		r.around[e[0]] = append(r.around[e[0]], e[1])
		r.around[e[1]] = append(r.around[e[1]], e[0])
	}
	for p, ends := range r.around {
		slices.SortFunc(ends, func(a, b api.Point) int {
			if upper(p, a) != upper(p, b) {
				if upper(p, a) {
					return -1
				}
				return 1
			}
			return -exact.Turn(p, a, b)
		})
		for place, end := range ends {
			r.places[way{p, end}] = place
		}
	}
	return r
}

// upper tells whether the way from p to q goes up, or straight to greater X.
func upper(p, q api.Point) bool {
	return q.Y > p.Y || q.Y == p.Y && q.X > p.X
}

// next is the edge with which what lies to the left of an edge goes on: to the right of the way back.
func (r regions) next(w way) way {
	ends := r.around[w[1]]
	place := r.places[turned(w)]
	if place == 0 {
		place = len(ends)
	}
	return way{w[1], ends[place-1]}
}

// nests tells how often faces go round what lies beside an edge.
type nests struct {
	faces []face.Face
	boxes *rows.Index // of rings
	rings [][2]int    // a face's number, and a ring's place there
}

// nestsOf are those of faces.
func nestsOf(l []face.Face) nests {
	n := nests{faces: l, boxes: rows.New()}
	for i, f := range l {
		for j, r := range f.Rings {
			box, _ := rows.Of(r...)
			n.boxes.Add(box)
			n.rings = append(n.rings, [2]int{i, j})
		}
	}
	return n
}

// only tells whether a face goes once round what lies beside an edge, and no other one does. Rings whose box doesn't meet the edge go round nothing there.
func (n nests) only(owner int, w way) bool {
	box, _ := rows.Of(w[0], w[1])
	counts := map[int]int{owner: 0}
	for _, number := range n.boxes.Find(box) {
		at := n.rings[number]
		count, ok := ring.Beside(n.faces[at[0]].Rings[at[1]], w[0], w[1])
		if !ok {
			return false
		}
		counts[at[0]] += count
	}
	for f, count := range counts {
		if f == owner && count != 1 || f != owner && count != 0 {
			return false
		}
	}
	return true
}

// parted tells whether each side's face goes once round what lies beside it, other faces not at all, and its face not round the other side. Going over an edge a count changes just by the sides along it: so the last is so unless the face has the edge both ways; and of sides that one region goes along one is enough.
func parted(l []face.Face, sides []face.Side, owners map[way]int, edges []way) bool {
	around, nest := regionsOf(edges), nestsOf(l)
	gone := map[way]bool{}
	for _, s := range sides {
		first := way{s.A, s.B}
		if other, both := owners[turned(first)]; both && other == s.Face {
			return false
		}
		if gone[first] {
			continue
		}
		for w := first; !gone[w]; w = around.next(w) {
			gone[w] = true
			if owner, told := owners[w]; told && owner != s.Face {
				return false
			}
		}
		if !nest.only(s.Face, first) {
			return false
		}
	}
	return true
}
