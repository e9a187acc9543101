package value

import (
	"bytes"
	"math"
	"math/rand"
	"slices"
	"strings"
	"testing"

	"graticule/api"
	"graticule/proto"
)

const far = 1 << 60

// TestCheck: P10.1; what has an error has no bytes (P10.2) and no form (P10.3).
func TestCheck(t *testing.T) {
	long := strings.Repeat("é", 32) + "a"
	for _, x := range []struct {
		v   Value
		err api.Errno
	}{
		{Value{Text, "", 0}, api.OK}, {Value{Text, long[:64], 0}, api.OK}, {Value{Uint, "", far}, api.OK}, {Value{Int, "", far}, api.OK}, {Value{Int, "", -far}, api.OK}, {Value{Bool, "", 1}, api.OK}, {Value{Bool, "", 0}, api.OK},
		{Value{}, api.ErrKind}, {Value{5, "\xff", 1}, api.ErrKind}, {Value{-1, "", 0}, api.ErrKind},
		{Value{Text, "\xff", 1}, api.ErrForm}, {Value{Uint, "\xff", -1}, api.ErrForm}, {Value{Int, "a", 0}, api.ErrForm}, {Value{Bool, "a", 7}, api.ErrForm},
		{Value{Text, "\xff" + long, 0}, api.ErrText}, {Value{Text, long, 0}, api.ErrLong},
		{Value{Uint, "", -1}, api.ErrRange}, {Value{Uint, "", far + 1}, api.ErrRange}, {Value{Int, "", far + 1}, api.ErrRange}, {Value{Int, "", -far - 1}, api.ErrRange}, {Value{Bool, "", 2}, api.ErrRange}, {Value{Bool, "", -1}, api.ErrRange}, {Value{Int, "", math.MinInt}, api.ErrRange},
	} {
		if err := Check(x.v); err != x.err {
			t.Error(x, err)
		}
		b, err := Bytes(x.v)
		s, wrong := Print(x.v)
		if err != x.err || wrong != x.err || err != api.OK && (len(b) > 0 || s != "") {
			t.Error(x, b, err, s, wrong)
		}
	}
}

// TestOrder: P10.1.
func TestOrder(t *testing.T) {
	l := []Value{{-5, "z", 9}, {0, "z", 1}, {0, "a", 2}, {Text, "", 9}, {Text, "a", 5}, {Text, "b", -1}, {Text, "\xff", 0}, {Uint, "z", -1}, {Uint, "a", 0}, {Int, "", math.MinInt}, {Int, "", 3}, {Bool, "", 0}, {Bool, "", 1}, {9, "", 0}}
	for i := range l {
		for j := range l {
			if Less(l[i], l[j]) != (i < j) {
				t.Error(l[i], l[j])
			}
		}
	}
	back := slices.Clone(l)
	slices.Reverse(back)
	if got := Sort(back...); !slices.Equal(got, l) || back[0] != l[len(l)-1] {
		t.Error(got)
	}
	if got := Sort(Value{Text, "a", 7}, Value{Uint, "x", 1}, Value{Text, "a", 3}, Value{Uint, "b", 1}); !slices.Equal(got, []Value{{Text, "a", 7}, {Text, "a", 3}, {Uint, "x", 1}, {Uint, "b", 1}}) {
		t.Error("like ones", got)
	}
	if len(Sort()) != 0 {
		t.Error("none")
	}
}

// TestForms: P10.2 to P10.4.
func TestForms(t *testing.T) {
	for _, x := range []struct {
		v Value
		b []byte
		s string
	}{
		{Value{Int, "", -3}, []byte{48, 5}, "-3"}, {Value{Uint, "", 3}, []byte{40, 3}, "u3"}, {Value{Bool, "", 1}, []byte{56, 1}, "yes"}, {Value{Bool, "", 0}, []byte{56, 0}, "no"},
		{Value{Int, "", 0}, []byte{48, 0}, "+0"}, {Value{Int, "", 64}, []byte{48, 128, 1}, "+64"}, {Value{Uint, "", 0}, []byte{40, 0}, "u0"},
		{Value{Text, "a\"", 0}, []byte{10, 2, 'a', '"'}, `"a\""`}, {Value{Text, "", 0}, []byte{10, 0}, `""`},
	} {
		b, err := Bytes(x.v)
		s, wrong := Print(x.v)
		if !bytes.Equal(b, x.b) || s != x.s || err != api.OK || wrong != api.OK {
			t.Error(x, b, s)
		}
		v, err := Read(x.b)
		w, wrong := Parse(x.s)
		if v != x.v || w != x.v || err != api.OK || wrong != api.OK {
			t.Error(x, v, w)
		}
	}
}

// message is the bytes of fields.
func message(l ...proto.Field) []byte {
	b, err := proto.Write(l...)
	if err != api.OK {
		panic(err)
	}
	return b
}

// TestRead: P10.2.
func TestRead(t *testing.T) {
	num := func(n int, v uint64) proto.Field { return proto.Field{Num: n, N: v} }
	txt := func(n int, s string) proto.Field {
		return proto.Field{Num: n, Kind: proto.Bytes, Bytes: []byte(s)}
	}
	for _, x := range []struct {
		b   []byte
		v   Value
		err api.Errno
	}{
		{[]byte{21, 0, 0, 0, 0}, Value{}, api.ErrKind}, {nil, Value{}, api.ErrNone}, {[]byte{40}, Value{}, api.ErrEnd}, {[]byte{40, 1, 11}, Value{}, api.ErrKind}, {[]byte{0}, Value{}, api.ErrRange},
		{message(num(8, 1), num(5, 7), txt(9, "x")), Value{Uint, "", 7}, api.OK}, {message(num(8, 1), txt(100, "x")), Value{}, api.ErrNone},
		{message(num(2, 1)), Value{}, api.ErrKind}, {message(num(3, 1)), Value{}, api.ErrKind}, {message(num(4, 1)), Value{}, api.ErrKind}, {message(txt(4, "")), Value{}, api.ErrKind}, {message(num(5, 1), num(3, 1)), Value{}, api.ErrKind},
		{message(num(1, 1)), Value{}, api.ErrWire}, {message(txt(5, "")), Value{}, api.ErrWire}, {message(txt(6, "")), Value{}, api.ErrWire}, {message(proto.Field{Num: 7, Kind: proto.Four}), Value{}, api.ErrWire}, {message(num(5, 1), txt(6, "")), Value{}, api.ErrWire},
		{message(num(5, 1), num(5, 1)), Value{}, api.ErrTwice}, {message(num(5, 1), txt(1, "")), Value{}, api.ErrTwice}, {message(num(7, 1), num(6, 1), num(2, 0)), Value{}, api.ErrTwice}, {message(num(5, 1<<63), num(6, 1), num(2, 0)), Value{}, api.ErrTwice},
		{message(txt(1, "\xff")), Value{}, api.ErrText}, {message(txt(1, strings.Repeat("a", 65))), Value{}, api.ErrLong},
		{message(num(5, far+1)), Value{}, api.ErrRange}, {message(num(5, math.MaxUint64)), Value{}, api.ErrRange}, {message(num(5, 1<<63)), Value{}, api.ErrRange}, {message(num(7, 2)), Value{}, api.ErrRange}, {message(num(7, math.MaxUint64)), Value{}, api.ErrRange}, {message(num(7, 1<<63+1)), Value{}, api.ErrRange},
		{message(num(6, 2*far)), Value{Int, "", far}, api.OK}, {message(num(6, 2*far-1)), Value{Int, "", -far}, api.OK}, {message(num(6, 2*far+1)), Value{}, api.ErrRange}, {message(num(6, 2*far+2)), Value{}, api.ErrRange}, {message(num(6, math.MaxUint64)), Value{}, api.ErrRange},
		{message(num(5, far)), Value{Uint, "", far}, api.OK},
	} {
		if v, err := Read(x.b); v != x.v || err != x.err {
			t.Error(x, v, err)
		}
	}
}

// TestParse: P10.3.
func TestParse(t *testing.T) {
	for s, e := range map[string]api.Errno{
		"": api.ErrForm, "a": api.ErrForm, "3": api.ErrForm, "Yes": api.ErrForm, "yes ": api.ErrForm, "é": api.ErrForm, "\xff": api.ErrForm,
		`"a`: api.ErrEnd, `"a" `: api.ErrForm, `"\x41"`: api.ErrForm, "\"\xff\"": api.ErrText, `"` + strings.Repeat("a", 65) + `"`: api.ErrLong, `"` + strings.Repeat("a", 65) + `"x`: api.ErrForm,
		"u": api.ErrForm, "+": api.ErrForm, "-": api.ErrForm, "u-1": api.ErrForm, "+-1": api.ErrForm, "u-9999999999999999999999": api.ErrForm, "u+1": api.ErrForm, "--1": api.ErrForm, "-0": api.ErrForm, "+01": api.ErrForm, "u01": api.ErrForm, "-01": api.ErrForm,
		"u1152921504606846977": api.ErrRange, "+1152921504606846977": api.ErrRange, "-1152921504606846977": api.ErrRange,
	} {
		if v, err := Parse(s); v != (Value{}) || err != e {
			t.Errorf("%q %v %d", s, v, err)
		}
	}
	for s, v := range map[string]Value{"u1152921504606846976": {Uint, "", far}, "-1152921504606846976": {Int, "", -far}, "+1": {Int, "", 1}, `"` + strings.Repeat("a", 64) + `"`: {Text, strings.Repeat("a", 64), 0}} {
		if got, err := Parse(s); got != v || err != api.OK {
			t.Error(s, got, err)
		}
	}
}

// TestFollows: P10.4.
func TestFollows(t *testing.T) {
	r := rand.New(rand.NewSource(15))
	for range 5000 {
		v := Value{Kind: 1 + r.Intn(4)}
		switch v.Kind {
		case Text:
			for range r.Intn(10) {
				v.Text += string(rune(r.Intn(200)))
			}
		case Uint:
			v.N = r.Intn(far+1) >> r.Intn(61)
		case Int:
			v.N = (r.Intn(2*far+1) - far) >> r.Intn(61)
		case Bool:
			v.N = r.Intn(2)
		}
		b, err := Bytes(v)
		got, wrong := Read(b)
		if err != api.OK || wrong != api.OK || got != v {
			t.Fatal(v, b, got)
		}
		s, err := Print(v)
		got, wrong = Parse(s)
		if err != api.OK || wrong != api.OK || got != v {
			t.Fatal(v, s, got)
		}
	}
}
