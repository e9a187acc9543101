package proto

import (
	"bytes"
	"math"
	"math/rand"
	"testing"

	"graticule/api"
	"graticule/varint"
)

// TestWrite: P8.1.
func TestWrite(t *testing.T) {
	for _, x := range []struct {
		l   []Field
		b   []byte
		err api.Errno
	}{
		{nil, nil, api.OK},
		{[]Field{{3, Bytes, 0, []byte("ab")}}, []byte{26, 2, 97, 98}, api.OK},
		{[]Field{{15, Number, 2, nil}}, []byte{120, 2}, api.OK},
		{[]Field{{1, Number, 300, nil}, {2, Bytes, 0, nil}}, []byte{8, 172, 2, 18, 0}, api.OK},
		{[]Field{{1, Eight, 0x0102030405060708, nil}}, []byte{9, 8, 7, 6, 5, 4, 3, 2, 1}, api.OK},
		{[]Field{{1, Four, 0x01020304, []byte{}}}, []byte{13, 4, 3, 2, 1}, api.OK},
		{[]Field{{1<<29 - 1, Four, 1<<32 - 1, nil}}, []byte{253, 255, 255, 255, 15, 255, 255, 255, 255}, api.OK},
		{[]Field{{0, 9, 1, []byte{1}}}, nil, api.ErrRange}, {[]Field{{1 << 29, Number, 1, nil}}, nil, api.ErrRange}, {[]Field{{-1, Number, 1, nil}}, nil, api.ErrRange},
		{[]Field{{1, 3, 1, []byte{1}}}, nil, api.ErrKind}, {[]Field{{1, 4, 1, nil}}, nil, api.ErrKind}, {[]Field{{1, 6, 1, nil}}, nil, api.ErrKind}, {[]Field{{1, -1, 1, nil}}, nil, api.ErrKind}, {[]Field{{1, 7, 0, nil}}, nil, api.ErrKind},
		{[]Field{{1, Number, 0, []byte{1}}}, nil, api.ErrForm}, {[]Field{{1, Eight, 0, []byte{1}}}, nil, api.ErrForm}, {[]Field{{1, Four, 1 << 32, []byte{1}}}, nil, api.ErrForm}, {[]Field{{1, Bytes, 1, nil}}, nil, api.ErrForm},
		{[]Field{{1, Four, 1 << 32, nil}}, nil, api.ErrRange},
		{[]Field{{1, Number, 1, nil}, {1, 3, 0, nil}, {0, 0, 0, nil}}, nil, api.ErrKind},
	} {
		if b, err := Write(x.l...); !bytes.Equal(b, x.b) || err != x.err {
			t.Error(x.l, b, err)
		}
	}
}

// TestRead: P8.2, of Read and of Skip.
func TestRead(t *testing.T) {
	long := varint.Bytes(math.MaxUint64)
	for _, x := range []struct {
		b    []byte
		f    Field
		size int
		err  api.Errno
	}{
		{[]byte{26, 2, 97, 98, 99}, Field{3, Bytes, 0, []byte("ab")}, 4, api.OK},
		{[]byte{120, 2}, Field{15, Number, 2, nil}, 2, api.OK},
		{[]byte{26, 0}, Field{3, Bytes, 0, nil}, 2, api.OK},
		{[]byte{9, 8, 7, 6, 5, 4, 3, 2, 1, 0}, Field{1, Eight, 0x0102030405060708, nil}, 9, api.OK},
		{[]byte{13, 4, 3, 2, 1}, Field{1, Four, 0x01020304, nil}, 5, api.OK},
		{append([]byte{8}, long...), Field{1, Number, math.MaxUint64, nil}, 11, api.OK},
		{append(varint.Bytes(1<<32-8), 7), Field{1<<29 - 1, Number, 7, nil}, 6, api.OK},
		{nil, Field{}, 0, api.ErrEnd}, {[]byte{128, 0}, Field{}, 0, api.ErrForm}, {bytes.Repeat([]byte{255}, 12), Field{}, 0, api.ErrRange},
		{[]byte{0}, Field{}, 0, api.ErrRange}, {[]byte{3}, Field{}, 0, api.ErrRange}, {varint.Bytes(1 << 32), Field{}, 0, api.ErrRange}, {long, Field{}, 0, api.ErrRange},
		{[]byte{11}, Field{}, 0, api.ErrKind}, {[]byte{12}, Field{}, 0, api.ErrKind}, {[]byte{14}, Field{}, 0, api.ErrKind}, {[]byte{15}, Field{}, 0, api.ErrKind},
		{[]byte{8}, Field{}, 0, api.ErrEnd}, {[]byte{8, 129, 0}, Field{}, 0, api.ErrForm}, {append([]byte{8}, bytes.Repeat([]byte{255}, 10)...), Field{}, 0, api.ErrRange},
		{[]byte{10}, Field{}, 0, api.ErrEnd}, {[]byte{10, 129, 0}, Field{}, 0, api.ErrForm}, {[]byte{10, 1}, Field{}, 0, api.ErrEnd}, {[]byte{10, 3, 1, 1}, Field{}, 0, api.ErrEnd}, {append([]byte{10}, long...), Field{}, 0, api.ErrEnd},
		{[]byte{9, 1, 1, 1, 1, 1, 1, 1}, Field{}, 0, api.ErrEnd}, {[]byte{13, 1, 1, 1}, Field{}, 0, api.ErrEnd},
	} {
		f, size, err := Read(x.b)
		if !Same([]Field{f}, []Field{x.f}) || size != x.size || err != x.err {
			t.Error(x.b, f, size, err)
		}
		if size, err := Skip(x.b); size != x.size || err != x.err {
			t.Error("skip", x.b, size, err)
		}
	}
	b := []byte{26, 2, 97, 98}
	f, _, _ := Read(b)
	f.Bytes[0] = 9
	if b[2] != 97 {
		t.Error("shared")
	}
}

// TestAll: P8.3.
func TestAll(t *testing.T) {
	for _, x := range []struct {
		b     []byte
		l     []Field
		place int
		err   api.Errno
	}{
		{nil, nil, 0, api.OK}, {[]byte{8, 1, 18, 1, 7}, []Field{{1, Number, 1, nil}, {2, Bytes, 0, []byte{7}}}, 0, api.OK},
		{[]byte{8, 1, 18, 1}, nil, 2, api.ErrEnd}, {[]byte{8, 1, 11, 0}, nil, 2, api.ErrKind}, {[]byte{0}, nil, 0, api.ErrRange}, {[]byte{8, 1, 8, 128, 0, 0}, nil, 2, api.ErrForm},
	} {
		l, place, err := All(x.b)
		if !Same(l, x.l) || place != x.place || err != x.err {
			t.Error(x.b, l, place, err)
		}
	}
	l := []Field{{1, Bytes, 0, []byte{7}}, {2, Number, 1, nil}, {1, Number, 5, nil}}
	got := Only(l, 1)
	if !Same(got, []Field{{1, Bytes, 0, []byte{7}}, {1, Number, 5, nil}}) || len(Only(l, 3)) != 0 || len(Only(nil, 0)) != 0 {
		t.Error(got)
	}
	got[0].Bytes[0] = 9
	if l[0].Bytes[0] != 7 {
		t.Error("shared")
	}
}

// TestSame: P8.3.
func TestSame(t *testing.T) {
	a := Field{1, Bytes, 0, []byte{7}}
	if !Same(nil, []Field{}) || !Same([]Field{a}, []Field{{1, Bytes, 0, []byte{7}}}) || !Same([]Field{{1, 0, 2, nil}}, []Field{{1, 0, 2, []byte{}}}) {
		t.Error("same")
	}
	for _, f := range []Field{{2, Bytes, 0, []byte{7}}, {1, Four, 0, []byte{7}}, {1, Bytes, 1, []byte{7}}, {1, Bytes, 0, []byte{8}}, {1, Bytes, 0, []byte{7, 7}}} {
		if Same([]Field{a}, []Field{f}) {
			t.Error(f)
		}
	}
	if Same([]Field{a}, nil) || Same([]Field{a}, []Field{a, a}) {
		t.Error("unlike many")
	}
}

// TestFollows: P8.4.
func TestFollows(t *testing.T) {
	r := rand.New(rand.NewSource(13))
	read := 0
	for range 20000 {
		var l []Field
		for range r.Intn(4) {
			f := Field{Num: 1 + r.Intn(1<<r.Intn(30)), Kind: []int{Number, Eight, Bytes, Four}[r.Intn(4)]}
			switch f.Kind {
			case Number, Eight:
				f.N = r.Uint64() >> r.Intn(64)
			case Four:
				f.N = r.Uint64() >> 32
			case Bytes:
				f.Bytes = make([]byte, r.Intn(200))
			}
			if f.Num > 1<<29-1 {
				f.Num = 1
			}
			l = append(l, f)
		}
		b, err := Write(l...)
		got, _, wrong := All(b)
		if err != api.OK || wrong != api.OK || !Same(got, l) {
			t.Fatal(l, err, wrong)
		}
		b = make([]byte, r.Intn(8))
		for i := range b {
			b[i] = byte(r.Intn(30))
		}
		if got, _, err = All(b); err == api.OK {
			read++
			if again, _ := Write(got...); !bytes.Equal(again, b) {
				t.Fatal(b, got)
			}
		}
	}
	if read < 100 {
		t.Error("too few were read", read)
	}
}
