package script

import (
	"math"
	"slices"
	"strings"
	"testing"

	"graticule/api"
	"graticule/build"
	"graticule/face"
	"graticule/sample"
	"graticule/table"
	"graticule/value"
)

func p(x, y int) api.Point { return api.Point{X: x, Y: y} }

func numItem(kind int, l ...int) Item { return Item{Kind: kind, N: l} }

func attrItem(key string, v value.Value) Item { return Item{Attr, nil, key, v} }

func word(s string) value.Value { return value.Value{Kind: value.Text, Text: s} }

const far = 1 << 60

// TestWord: P30.1.
func TestWord(t *testing.T) {
	for i, w := range []string{"buffer", "tol", "zooms", "face", "ring", "attr", "tile", "locate", "near", "status", "level"} {
		if Word(i+1) != w {
			t.Error(i, Word(i+1))
		}
	}
	if Word(0) != "" || Word(12) != "" || Word(-1) != "" || Word(math.MinInt) != "" || Buffer != 1 || Level != 11 {
		t.Error("others")
	}
}

// TestCheck: P30.1; Print (P30.2) and Fold (P30.3) tell the same.
func TestCheck(t *testing.T) {
	for _, x := range []struct {
		it  Item
		err api.Errno
	}{
		{numItem(Buffer, -far), api.OK}, {numItem(Tol, far), api.OK}, {numItem(Zooms), api.OK}, {numItem(Zooms, make([]int, 16)...), api.OK}, {numItem(Face), api.OK}, {numItem(Ring), api.OK}, {numItem(Ring, make([]int, 600)...), api.OK}, {attrItem("a", word("")), api.OK}, {numItem(Tile, 1, 2, 3), api.OK}, {numItem(Locate, 1, 2, 3, 4), api.OK}, {numItem(Near, 1, 2), api.OK}, {numItem(Status, 1), api.OK}, {numItem(Level, 1), api.OK},
		{Item{0, []int{far + 1}, "9", word("\xff")}, api.ErrKind}, {numItem(12), api.ErrKind}, {numItem(-1), api.ErrKind},
		{numItem(Buffer), api.ErrForm}, {numItem(Buffer, 1, 2), api.ErrForm}, {numItem(Tol), api.ErrForm}, {numItem(Zooms, make([]int, 17)...), api.ErrForm}, {numItem(Face, 1), api.ErrForm}, {numItem(Ring, 1), api.ErrForm}, {numItem(Ring, make([]int, 602)...), api.ErrForm}, {Item{Attr, []int{1}, "9", value.Value{}}, api.ErrForm}, {numItem(Tile, far+1, 2), api.ErrForm}, {numItem(Locate, 1, 2, 3), api.ErrForm}, {numItem(Near, 1), api.ErrForm}, {numItem(Status), api.ErrForm}, {numItem(Level, 1, 1), api.ErrForm},
		{Item{Buffer, []int{far + 1}, "a", value.Value{}}, api.ErrRange}, {numItem(Ring, 0, -far-1), api.ErrRange}, {numItem(Level, math.MinInt), api.ErrRange},
		{attrItem("9", value.Value{}), api.ErrText}, {attrItem("", word("")), api.ErrText}, {attrItem("a", value.Value{}), api.ErrKind}, {attrItem("a", word("\xff")), api.ErrText}, {attrItem("a", word(strings.Repeat("a", 65))), api.ErrLong},
		{Item{Face, nil, "a", value.Value{}}, api.ErrForm}, {Item{Buffer, []int{1}, "", word("")}, api.ErrForm}, {Item{Near, []int{1, 2}, "", value.Value{N: 1}}, api.ErrForm},
	} {
		s, err := Print(numItem(Face), x.it)
		in, questions, place, wrong := Fold(numItem(Face), x.it)
		if Check(x.it) != x.err || err != x.err || wrong != x.err {
			t.Error(x, Check(x.it), err, wrong)
		}
		if x.err != api.OK && (s != "" || len(in.Faces) > 0 || len(questions) > 0 || place != 1) {
			t.Error("not nothing", x)
		}
	}
}

// script is a script, and its items.
func script() (string, []Item) {
	return "buffer 5\nface\nring 0 0 16 0 0 16\nattr name \"a b\"\nlocate 4 1 1 1\nzooms\nattr b u7\nattr c -1\nattr d yes\ntol 0\nzooms 1 -2\nnear 1 0\ntile 0 0 0\nring\nlevel 3\nstatus -7\n",
		[]Item{numItem(Buffer, 5), numItem(Face), numItem(Ring, 0, 0, 16, 0, 0, 16), attrItem("name", word("a b")), numItem(Locate, 4, 1, 1, 1), numItem(Zooms), attrItem("b", value.Value{Kind: value.Uint, N: 7}), attrItem("c", value.Value{Kind: value.Int, N: -1}), attrItem("d", value.Value{Kind: value.Bool, N: 1}), numItem(Tol, 0), numItem(Zooms, 1, -2), numItem(Near, 1, 0), numItem(Tile, 0, 0, 0), numItem(Ring), numItem(Level, 3), numItem(Status, -7)}
}

// TestParse: P30.2.
func TestParse(t *testing.T) {
	s, items := script()
	if got, place, err := Parse(s); !Same(got, items) || place != 0 || err != api.OK {
		t.Error(got, place, err)
	}
	if got, err := Print(items...); got != s || err != api.OK {
		t.Error(got, err)
	}
	if got, err := Print(); got != "" || err != api.OK {
		t.Error("nothing", got, err)
	}
	for _, x := range []struct {
		s     string
		place int
		err   api.Errno
	}{
		{"", 0, api.OK}, {"face", 0, api.ErrEnd}, {"face\nbuffer", 1, api.ErrEnd}, {"face\n\xff", 1, api.ErrEnd}, {"bufer 1\nface", 0, api.ErrKind},
		{"face  x\n", 0, api.ErrForm}, {"face\nface \n", 1, api.ErrForm}, {"face \"a\n", 0, api.ErrEnd}, {"\xff\n", 0, api.ErrText}, {" face\n", 0, api.ErrForm},
		{"\n", 0, api.ErrKind}, {"face\n\n", 1, api.ErrKind}, {"\"face\"\n", 0, api.ErrKind}, {"Face\n", 0, api.ErrKind}, {"faces\n", 0, api.ErrKind}, {"face\r\n", 0, api.ErrKind}, {"foo \"x\"\n", 0, api.ErrKind},
		{"attr\n", 0, api.ErrForm}, {"attr a\n", 0, api.ErrForm}, {"attr 9 x y\n", 0, api.ErrForm}, {"attr \"a\" yes\n", 0, api.ErrForm}, {"attr 9 nix\n", 0, api.ErrText}, {"attr a nix\n", 0, api.ErrForm}, {"attr a u1152921504606846977\n", 0, api.ErrRange}, {"attr a \"" + strings.Repeat("é", 33) + "\"\n", 0, api.ErrLong}, {"attr a \"" + strings.Repeat("é", 32) + "\"\n", 0, api.OK}, {"attr a 3\n", 0, api.ErrForm},
		{"buffer \"1\"\n", 0, api.ErrForm}, {"buffer \"1\" x\n", 0, api.ErrForm}, {"buffer x \"1\"\n", 0, api.ErrForm}, {"buffer 1152921504606846977 \"1\"\n", 0, api.ErrRange}, {"buffer 01\n", 0, api.ErrForm}, {"buffer\n", 0, api.ErrForm}, {"buffer 1 2\n", 0, api.ErrForm}, {"buffer 1 1152921504606846977\n", 0, api.ErrRange}, {"face 1\n", 0, api.ErrForm}, {"ring 1\n", 0, api.ErrForm}, {"zooms" + strings.Repeat(" 1", 17) + "\n", 0, api.ErrForm}, {"zooms" + strings.Repeat(" 1", 16) + "\n", 0, api.OK}, {"ring" + strings.Repeat(" 1", 602) + "\n", 0, api.ErrForm}, {"tile 1 2\n", 0, api.ErrForm}, {"locate 1 2 3\n", 0, api.ErrForm}, {"near 1\n", 0, api.ErrForm}, {"status\n", 0, api.ErrForm}, {"level 1 2\n", 0, api.ErrForm}, {"buffer -0\n", 0, api.ErrForm}, {"buffer +1\n", 0, api.ErrForm},
	} {
		if got, place, err := Parse(x.s); place != x.place || err != x.err || err != api.OK && len(got) > 0 {
			t.Errorf("%q %v %d %d", x.s, got, place, err)
		}
	}
}

// TestFold: P30.3.
func TestFold(t *testing.T) {
	_, items := script()
	in, questions, place, err := Fold(items...)
	f := face.Face{Rings: [][]api.Point{{p(0, 0), p(16, 0), p(0, 16)}, nil}, Attrs: []table.Attr{{Key: "name", Value: word("a b")}, {Key: "b", Value: value.Value{Kind: value.Uint, N: 7}}, {Key: "c", Value: value.Value{Kind: value.Int, N: -1}}, {Key: "d", Value: value.Value{Kind: value.Bool, N: 1}}}}
	if !face.Same(in.Faces, []face.Face{f}) || in.Buffer != 5 || in.Tol != 0 || !slices.Equal(in.Zooms, []int{1, -2}) || place != 0 || err != api.OK {
		t.Error(in, place, err)
	}
	if !Same(questions, []Item{items[4], items[11], items[12], items[14], items[15]}) {
		t.Error(questions)
	}
	questions[0].N[0], in.Zooms[0] = 77, 77
	if _, fresh := script(); !Same(items, fresh) {
		t.Error("shared")
	}
	for _, x := range []struct {
		l     []Item
		place int
		err   api.Errno
	}{
		{[]Item{numItem(Buffer, 1), numItem(Ring), numItem(99)}, 1, api.ErrNone}, {[]Item{attrItem("a", word("")), numItem(Face)}, 0, api.ErrNone}, {[]Item{numItem(Ring, 1)}, 0, api.ErrForm}, {[]Item{numItem(Face), numItem(Ring, 1)}, 1, api.ErrForm}, {nil, 0, api.OK},
	} {
		if in, questions, place, err := Fold(x.l...); place != x.place || err != x.err || len(in.Faces)+len(questions) > 0 {
			t.Error(x, place, err)
		}
	}
	in, _, _, _ = Fold(numItem(Buffer, 1), numItem(Tol, 2), numItem(Zooms, 3), numItem(Buffer, 4), numItem(Tol, 5), numItem(Zooms), numItem(Face), numItem(Face), numItem(Ring, 1, 1))
	if in.Buffer != 4 || in.Tol != 5 || len(in.Zooms) != 0 || len(in.Faces) != 2 || len(in.Faces[0].Rings) != 0 || len(in.Faces[1].Rings) != 1 {
		t.Error("the last ones", in)
	}
}

// TestSame: P30.3.
func TestSame(t *testing.T) {
	a := attrItem("a", word("x"))
	for _, b := range []Item{attrItem("b", word("x")), attrItem("a", word("y")), {Face, nil, "a", word("x")}, {Attr, []int{1}, "a", word("x")}} {
		if Same([]Item{a}, []Item{b}) {
			t.Error(b)
		}
	}
	if !Same(nil, []Item{}) || Same([]Item{a}, nil) || !Same([]Item{numItem(Zooms)}, []Item{{Zooms, []int{}, "", value.Value{}}}) {
		t.Error("same")
	}
	in := build.Input{Faces: []face.Face{{}, {Rings: [][]api.Point{{p(1, 2), p(3, 4)}}, Attrs: []table.Attr{{Key: "k", Value: word("x")}}}}, Buffer: 7, Tol: 8, Zooms: []int{2, 1}}
	if got := Of(in); !Same(got, []Item{numItem(Buffer, 7), numItem(Tol, 8), numItem(Zooms, 2, 1), numItem(Face), numItem(Face), numItem(Ring, 1, 2, 3, 4), attrItem("k", word("x"))}) {
		t.Error(got)
	}
	got := Of(in)
	got[2].N[0] = 77
	if in.Zooms[0] != 2 {
		t.Error("shared")
	}
}

// TestFollows: P30.4.
func TestFollows(t *testing.T) {
	r := sample.New(37)
	read := 0
	for i := range 400 {
		in := build.Input{Faces: sample.Of(r, sample.Shape{Size: 2 + i%4, Count: 1 + i%4, Step: 9, Jitter: 2}), Buffer: r.Next(99) - 9, Tol: r.Next(99), Zooms: []int{3, 1, 2}[:r.Next(4)]}
		items := Of(in)
		s, err := Print(items...)
		got, _, wrong := Parse(s)
		if err != api.OK || wrong != api.OK || !Same(got, items) {
			t.Fatal(s)
		}
		back, questions, _, err := Fold(items...)
		if err != api.OK || !face.Same(back.Faces, in.Faces) || back.Buffer != in.Buffer || back.Tol != in.Tol || !slices.Equal(back.Zooms, in.Zooms) || len(questions) > 0 {
			t.Fatal(in, back)
		}
		for range 50 {
			spoilt := []byte(s)
			spoilt[r.Next(len(spoilt))] = " 1-\"\nae"[r.Next(7)]
			if got, _, err := Parse(string(spoilt)); err == api.OK {
				read++
				if again, wrong := Print(got...); wrong != api.OK || again != string(spoilt) {
					t.Fatal(string(spoilt), again)
				}
			}
		}
	}
	if read < 1000 {
		t.Error("too few", read)
	}
}
