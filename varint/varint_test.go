package varint

import (
	"bytes"
	"math"
	"math/rand"
	"slices"
	"testing"

	"graticule/api"
)

// TestBytes: P7.1.
func TestBytes(t *testing.T) {
	if got := Bytes(1, 300); !bytes.Equal(got, []byte{1, 172, 2}) {
		t.Error("the example", got)
	}
	if len(Bytes()) != 0 || !bytes.Equal(Bytes(0), []byte{0}) || !bytes.Equal(Bytes(127, 128), []byte{127, 128, 1}) {
		t.Error("edges")
	}
	if got := Bytes(math.MaxUint64); !bytes.Equal(got, []byte{255, 255, 255, 255, 255, 255, 255, 255, 255, 1}) {
		t.Error("the greatest", got)
	}
	for i := range 64 {
		for _, n := range []uint64{1 << i, 1<<i - 1, 1<<i + 1} {
			if Size(n) != len(Bytes(n)) || Size(n) != max(1, (len64(n)+6)/7) {
				t.Error("size", n)
			}
		}
	}
}

func len64(n uint64) int {
	bits := 0
	for ; n > 0; n >>= 1 {
		bits++
	}
	return bits
}

// TestZig: P7.1.
func TestZig(t *testing.T) {
	for n, u := range map[int]uint64{0: 0, -1: 1, 1: 2, -2: 3, -3: 5, math.MaxInt: math.MaxUint64 - 1, math.MinInt: math.MaxUint64} {
		if Zig(n) != u || Zag(u) != n {
			t.Error(n, Zig(n), Zag(u))
		}
	}
}

// ten are nine bytes of 128 or more, and a last one.
func ten(last byte) []byte { return append(bytes.Repeat([]byte{200}, 9), last) }

// TestRead: P7.2.
func TestRead(t *testing.T) {
	for _, x := range []struct {
		b    []byte
		n    uint64
		size int
		err  api.Errno
	}{
		{[]byte{172, 2, 9}, 300, 2, api.OK}, {[]byte{0}, 0, 1, api.OK}, {[]byte{0, 0}, 0, 1, api.OK},
		{nil, 0, 0, api.ErrEnd}, {[]byte{128}, 0, 0, api.ErrEnd}, {bytes.Repeat([]byte{255}, 9), 0, 0, api.ErrEnd},
		{bytes.Repeat([]byte{255}, 10), 0, 0, api.ErrRange}, {bytes.Repeat([]byte{255}, 11), 0, 0, api.ErrRange}, {append(bytes.Repeat([]byte{128}, 10), 0), 0, 0, api.ErrRange},
		{ten(2), 0, 0, api.ErrRange}, {ten(127), 0, 0, api.ErrRange}, {ten(0), 0, 0, api.ErrForm},
		{[]byte{128, 0}, 0, 0, api.ErrForm}, {[]byte{255, 128, 0}, 0, 0, api.ErrForm},
		{append(bytes.Repeat([]byte{255}, 9), 1, 7), math.MaxUint64, 10, api.OK},
	} {
		if n, size, err := Read(x.b); n != x.n || size != x.size || err != x.err {
			t.Error(x.b, n, size, err)
		}
	}
}

// TestRow: P7.2.
func TestRow(t *testing.T) {
	for _, x := range []struct {
		b     []byte
		l     []uint64
		place int
		err   api.Errno
	}{
		{nil, nil, 0, api.OK}, {[]byte{1, 172, 2}, []uint64{1, 300}, 0, api.OK},
		{[]byte{1, 172, 2, 128}, nil, 3, api.ErrEnd}, {[]byte{1, 128, 0, 128}, nil, 1, api.ErrForm}, {append([]byte{5, 5}, ten(2)...), nil, 2, api.ErrRange},
	} {
		if l, place, err := Row(x.b); !slices.Equal(l, x.l) || place != x.place || err != x.err {
			t.Error(x.b, l, place, err)
		}
	}
}

// TestFollows: P7.3.
func TestFollows(t *testing.T) {
	r := rand.New(rand.NewSource(12))
	for range 3000 {
		var l []uint64
		for range r.Intn(5) {
			l = append(l, r.Uint64()>>r.Intn(64))
		}
		got, place, err := Row(Bytes(l...))
		if !slices.Equal(got, l) || place != 0 || err != api.OK {
			t.Fatal(l, got)
		}
		for _, n := range l {
			if Zig(Zag(n)) != n || Zag(Zig(int(n))) != int(n) {
				t.Fatal(n)
			}
		}
		b := make([]byte, r.Intn(13))
		for i := range b {
			b[i] = byte(r.Intn(256)) | byte(r.Intn(2)*128)
		}
		if got, _, err := Row(b); err == api.OK && !bytes.Equal(Bytes(got...), b) {
			t.Fatal(b, got)
		}
	}
}
