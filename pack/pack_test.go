package pack

import (
	"bytes"
	"math"
	"slices"
	"testing"

	"graticule/api"
	"graticule/sample"
	"graticule/varint"
	"graticule/window"
)

func at(z, x, y int) window.Tile { return window.Tile{Z: z, X: x, Y: y} }

func entry(z, x, y int, b ...byte) Entry { return Entry{at(z, x, y), b} }

func same(a, b []Entry) bool {
	return slices.EqualFunc(a, b, func(x, y Entry) bool { return x.Tile == y.Tile && bytes.Equal(x.Bytes, y.Bytes) })
}

// told is the four signs, and behind them the bytes of numbers.
func told(l ...uint64) []byte { return append([]byte{71, 82, 84, 49}, varint.Bytes(l...)...) }

// TestWrite: P27.1.
func TestWrite(t *testing.T) {
	for _, x := range []struct {
		name string
		head []byte
		l    []Entry
		b    []byte
		err  api.Errno
	}{
		{"nothing", nil, nil, told(0, 0, 0), api.OK}, {"one", nil, []Entry{entry(0, 0, 0, 7)}, told(0, 1, 1, 7, 1, 0, 0, 0, 0), api.OK}, {"a head", []byte{9, 8}, nil, told(2, 9, 8, 0, 0), api.OK},
		{"in order, bytes once", []byte{9}, []Entry{entry(1, 1, 0, 5), entry(1, 0, 1), entry(0, 0, 0, 5), entry(1, 0, 0, 6, 6)}, told(1, 9, 3, 1, 5, 2, 6, 6, 0, 4, 0, 0, 0, 0, 1, 0, 0, 1, 1, 0, 1, 2, 1, 1, 0, 0), api.OK},
		{"no tile", nil, []Entry{entry(0, 0, 0), entry(5, 0, 0), entry(0, 0, 0)}, nil, api.ErrRange}, {"twice", nil, []Entry{entry(0, 0, 0), entry(0, 0, 0), entry(-1, 0, 0)}, nil, api.ErrTwice}, {"no tile", nil, []Entry{entry(1, 2, 0)}, nil, api.ErrRange},
	} {
		before := slices.Clone(x.l)
		if b, err := Write(x.head, x.l...); !bytes.Equal(b, x.b) || err != x.err || !same(before, x.l) {
			t.Error(x.name, b, err)
		}
	}
}

// TestOpen: P27.2.
func TestOpen(t *testing.T) {
	var blobs []uint64
	for i := range 341 {
		blobs = append(blobs, 2, uint64(i%100), uint64(i/100))
	}
	for _, x := range []struct {
		name string
		b    []byte
		err  api.Errno
	}{
		{"nothing", nil, api.ErrMagic}, {"short", []byte("GRT"), api.ErrMagic}, {"another", []byte("GRT2\x00\x00\x00"), api.ErrMagic}, {"small signs", []byte("grt1\x00\x00\x00"), api.ErrMagic}, {"a sign ahead", []byte(" GRT1\x00\x00\x00"), api.ErrMagic}, {"the number 1", []byte{71, 82, 84, 1, 0, 0, 0}, api.ErrMagic}, {"the signs alone", told(), api.ErrEnd}, {"no blobs", told(0), api.ErrEnd}, {"no entries", told(0, 0), api.ErrEnd},
		{"a long 0", append(told(), 128, 0), api.ErrForm}, {"a great number", append(told(), bytes.Repeat([]byte{255}, 10)...), api.ErrRange}, {"a short head", told(3, 1, 1), api.ErrEnd}, {"a short head", told(9, 0, 0), api.ErrEnd}, {"a head that is told too great", told(math.MaxUint64), api.ErrEnd},
		{"many blobs", told(0, 342), api.ErrMany}, {"many blobs", told(0, math.MaxUint64), api.ErrMany}, {"as many as may be", told(append([]uint64{0, 341}, blobs...)...), api.ErrEnd}, {"a short blob", told(0, 1, 2, 7), api.ErrEnd}, {"a blob twice", told(0, 3, 1, 7, 0, 1, 7), api.ErrTwice}, {"an empty blob twice", told(0, 2, 0, 0, 342), api.ErrTwice},
		{"many entries", told(0, 0, 342), api.ErrMany}, {"no number", append(told(0, 0, 1), 129, 0), api.ErrForm}, {"an entry's end", told(0, 1, 0, 1, 0, 0), api.ErrEnd}, {"no tile", told(0, 1, 0, 1, 0, 0, 1), api.ErrRange}, {"no tile", told(0, 1, 0, 1, 5, 0, 0, 9), api.ErrRange}, {"no tile", told(0, 1, 0, 1, math.MaxUint64, 0, 0, 9), api.ErrRange}, {"no tile", told(0, 1, 0, 1, 4, 16, 0, 9), api.ErrRange},
		{"the same tile", told(0, 1, 0, 2, 1, 1, 0, 0, 1, 1, 0, 9), api.ErrOrder}, {"one ahead", told(0, 1, 0, 2, 1, 1, 0, 0, 1, 0, 1, 9), api.ErrOrder}, {"no blob's number", told(0, 1, 0, 1, 0, 0, 0), api.ErrEnd}, {"no such blob", told(0, 1, 0, 1, 0, 0, 0, 1), api.ErrRange}, {"no such blob", told(0, 0, 1, 0, 0, 0, math.MaxUint64), api.ErrRange}, {"a blob ahead of its turn", told(0, 2, 0, 1, 1, 1, 0, 0, 0, 1), api.ErrOrder},
		{"a blob of none", told(0, 2, 0, 1, 1, 1, 0, 0, 0, 0, 5), api.ErrNone}, {"blobs alone", told(0, 1, 0, 0), api.ErrNone}, {"bytes are left", told(0, 0, 0, 0), api.ErrForm}, {"bytes are left", told(0, 1, 1, 7, 1, 0, 0, 0, 0, 1), api.ErrForm},
	} {
		if p, err := Open(x.b); p != nil || err != x.err {
			t.Error(x.name, p, err)
		}
	}
}

// TestSigns: P27.1 and P27.2, of the four signs that an archive begins with.
func TestSigns(t *testing.T) {
	b, err := Write(nil)
	if string(b) != "GRT1\x00\x00\x00" || err != api.OK {
		t.Error("nothing", b, err)
	}
	if p, err := Open(b); p == nil || err != api.OK {
		t.Error("nothing isn't opened", err)
	}
	for place := range 4 {
		for sign := range 256 {
			other := bytes.Clone(b)
			other[place] = byte(sign)
			want := api.ErrMagic
			if other[place] == b[place] {
				want = api.OK
			}
			if p, err := Open(other); err != want || (p == nil) == (want == api.OK) {
				t.Error(other, err)
			}
		}
		if p, err := Open(b[:place]); p != nil || err != api.ErrMagic {
			t.Error("short", place, err)
		}
	}
}

// TestPack: P27.3.
func TestPack(t *testing.T) {
	head := []byte{9, 8}
	l := []Entry{entry(0, 0, 0, 5), entry(1, 0, 0, 6, 6), entry(1, 0, 1), entry(1, 1, 0, 5)}
	b, _ := Write(head, l...)
	given := bytes.Clone(b)
	p, err := Open(b)
	clear(b)
	if err != api.OK || !bytes.Equal(p.Head(), head) || !same(p.Entries(), l) || p.Len() != 4 || p.Blobs() != 3 {
		t.Error(p, err)
	}
	for _, e := range l {
		got, ok := p.Get(e.Tile)
		if !ok || !bytes.Equal(got, e.Bytes) {
			t.Error(e, got)
		}
		for i := range got {
			got[i] = 77
		}
	}
	for _, x := range []window.Tile{at(1, 1, 1), at(2, 0, 0), at(-1, 0, 0), at(0, 0, 1), at(math.MaxInt, 0, 0)} {
		if got, ok := p.Get(x); ok || len(got) > 0 {
			t.Error(x, got)
		}
	}
	p.Head()[0] = 77
	p.Entries()[0].Bytes[0] = 77
	if again, _ := Write(p.Head(), p.Entries()...); !bytes.Equal(again, given) {
		t.Error("shared", again)
	}
	var none *Pack
	if got, ok := none.Get(at(0, 0, 0)); ok || len(got) > 0 || len(none.Head()) > 0 || len(none.Entries()) > 0 || none.Len() != 0 || none.Blobs() != 0 {
		t.Error("nil")
	}
}

// TestFollows: P27.4.
func TestFollows(t *testing.T) {
	r := sample.New(34)
	read := 0
	for range 300 {
		var l []Entry
		for z := range 3 {
			for _, x := range window.All(z) {
				if r.Next(2) == 0 {
					l = append(l, Entry{x, make([]byte, r.Next(3))})
				}
			}
		}
		head := []byte{1, 2, 3}[:r.Next(4)]
		turned := slices.Clone(l)
		slices.Reverse(turned)
		b, err := Write(head, turned...)
		p, wrong := Open(b)
		if err != api.OK || wrong != api.OK || !same(p.Entries(), l) || !bytes.Equal(p.Head(), head) {
			t.Fatal(l)
		}
		for range 100 {
			spoilt := bytes.Clone(b)
			spoilt[4+r.Next(len(b)-4)] = byte(r.Next(6))
			if p, err := Open(spoilt); err == api.OK {
				read++
				if again, _ := Write(p.Head(), p.Entries()...); !bytes.Equal(again, spoilt) {
					t.Fatal(spoilt, again)
				}
			}
		}
	}
	if read < 500 {
		t.Error("too few", read)
	}
}
