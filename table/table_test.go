package table

import (
	"math"
	"math/rand"
	"slices"
	"strings"
	"testing"

	"graticule/api"
	"graticule/value"
)

func num(n int) value.Value { return value.Value{Kind: value.Uint, N: n} }

func attr(key string, n int) Attr { return Attr{key, num(n)} }

// many are so many attributes with unlike keys.
func many(n int) []Attr {
	var out []Attr
	for i := range n {
		out = append(out, attr(strings.Repeat("k", i+1), i))
	}
	return out
}

// TestCheck: P11.1; Add tells the same (P11.2).
func TestCheck(t *testing.T) {
	for _, x := range []struct {
		l   []Attr
		err api.Errno
	}{
		{nil, api.OK}, {many(8), api.OK}, {many(9), api.ErrMany}, {append(many(8), attr("", 1)), api.ErrMany},
		{[]Attr{attr("9", -1)}, api.ErrText}, {[]Attr{attr("", 1)}, api.ErrText}, {[]Attr{attr("a\xff", 1)}, api.ErrText},
		{[]Attr{attr("a", 1), attr("a", -1)}, api.ErrRange}, {[]Attr{{"a", value.Value{}}}, api.ErrKind}, {[]Attr{{"a", value.Value{Kind: value.Text, Text: "\xff"}}}, api.ErrText},
		{[]Attr{attr("a", 1), attr("a", 1)}, api.ErrTwice}, {[]Attr{attr("a", 1), attr("a", 2), attr("9", 1)}, api.ErrTwice}, {[]Attr{attr("a", 1), attr("9", 2), attr("a", 1)}, api.ErrText},
	} {
		var tab Table
		tags, err := tab.Add(x.l...)
		if Check(x.l...) != x.err || err != x.err || err != api.OK && (len(tags) > 0 || len(tab.Keys) > 0 || len(tab.Values) > 0) {
			t.Error(x, err)
		}
	}
}

// TestAdd: P11.2.
func TestAdd(t *testing.T) {
	var tab Table
	if tags, err := tab.Add(attr("a", 1), attr("b", 1)); !slices.Equal(tags, []int{0, 0, 1, 0}) || err != api.OK {
		t.Error("the example", tags)
	}
	if tags, err := tab.Add(attr("b", 2), attr("a", 1)); !slices.Equal(tags, []int{1, 1, 0, 0}) || err != api.OK {
		t.Error("the example", tags)
	}
	if !slices.Equal(tab.Keys, []string{"a", "b"}) || !slices.Equal(tab.Values, []value.Value{num(1), num(2)}) {
		t.Error(tab)
	}
	if tags, err := tab.Add(); len(tags) != 0 || err != api.OK {
		t.Error("none")
	}
	if tags, _ := tab.Add(Attr{"c", value.Value{Kind: value.Int, N: 1}}); !slices.Equal(tags, []int{2, 2}) {
		t.Error("another kind", tags)
	}
	twice := Table{Keys: []string{"x", "a", "a"}, Values: []value.Value{num(3), num(3)}}
	if tags, _ := twice.Add(attr("a", 3)); !slices.Equal(tags, []int{1, 0}) {
		t.Error("the first such place", tags)
	}
	room := []string{"a", "spare"}
	worth := []value.Value{num(1), num(9)}
	part := Table{Keys: room[:1], Values: worth[:1]}
	part.Add(attr("b", 2))
	if room[1] != "spare" || worth[1] != num(9) {
		t.Error("spare room")
	}
}

// TestAttrs: P11.2.
func TestAttrs(t *testing.T) {
	tab := Table{Keys: []string{"a", "b", "a", "c", "d", "e", "f", "g", "h", "i"}, Values: []value.Value{num(1), num(1)}}
	for _, x := range []struct {
		tags []int
		l    []Attr
		err  api.Errno
	}{
		{nil, nil, api.OK}, {[]int{1, 0, 0, 1}, []Attr{attr("b", 1), attr("a", 1)}, api.OK},
		{[]int{99}, nil, api.ErrForm}, {make([]int, 17), nil, api.ErrForm}, {make([]int, 18), nil, api.ErrMany},
		{[]int{10, 0}, nil, api.ErrRange}, {[]int{-1, 0}, nil, api.ErrRange}, {[]int{0, 2}, nil, api.ErrRange}, {[]int{0, -1}, nil, api.ErrRange}, {[]int{math.MinInt, math.MaxInt}, nil, api.ErrRange},
		{[]int{0, 0, 0, 1}, nil, api.ErrTwice}, {[]int{0, 0, 2, 0}, nil, api.ErrTwice}, {[]int{0, 0, 0, 2}, nil, api.ErrRange}, {[]int{0, 0, 2, 0, 99, 0}, nil, api.ErrTwice},
		{[]int{0, 0, 1, 0, 3, 0, 4, 0, 5, 0, 6, 0, 7, 0, 8, 0}, []Attr{attr("a", 1), attr("b", 1), attr("c", 1), attr("d", 1), attr("e", 1), attr("f", 1), attr("g", 1), attr("h", 1)}, api.OK},
	} {
		if l, err := tab.Attrs(x.tags...); !Same(l, x.l) || err != x.err {
			t.Error(x, l, err)
		}
	}
}

// TestTable: P11.2.
func TestTable(t *testing.T) {
	for _, x := range []struct {
		tab Table
		err api.Errno
	}{
		{Table{}, api.OK}, {Table{[]string{"a", "b"}, []value.Value{num(1), {Kind: value.Int, N: 1}}}, api.OK},
		{Table{[]string{"a", "9", "a"}, nil}, api.ErrText}, {Table{[]string{"a", "a", "9"}, []value.Value{{}}}, api.ErrTwice},
		{Table{[]string{"a"}, []value.Value{num(1), num(-1), num(1)}}, api.ErrRange}, {Table{nil, []value.Value{num(1), num(1), num(-1)}}, api.ErrTwice}, {Table{nil, []value.Value{{}}}, api.ErrKind},
	} {
		if err := x.tab.Check(); err != x.err {
			t.Error(x, err)
		}
	}
}

// TestNil: P11.4.
func TestNil(t *testing.T) {
	var tab *Table
	if tags, err := tab.Add(many(9)...); len(tags) != 0 || err != api.ErrArg {
		t.Error("add", err)
	}
	if err := tab.Check(); err != api.ErrArg {
		t.Error("check", err)
	}
	for n, e := range map[int]api.Errno{0: api.OK, 1: api.ErrForm, 2: api.ErrRange, 16: api.ErrRange, 18: api.ErrMany, 19: api.ErrForm} {
		if l, err := tab.Attrs(make([]int, n)...); len(l) != 0 || err != e {
			t.Error(n, err)
		}
	}
}

// TestLists: P11.3.
func TestLists(t *testing.T) {
	l := []Attr{attr("b", 1), attr("a", 2), attr("b", 0), attr("é", 5), attr("A", 1), attr("a", 1)}
	before := slices.Clone(l)
	got := Sort(l...)
	if !Same(got, []Attr{attr("A", 1), attr("a", 2), attr("a", 1), attr("b", 1), attr("b", 0), attr("é", 5)}) || !Same(l, before) || len(Sort()) != 0 {
		t.Error(got)
	}
	if !Same(nil, []Attr{}) || Same(l, nil) || Same(l, l[:3]) || Same([]Attr{attr("a", 1)}, []Attr{attr("a", 2)}) || Same([]Attr{attr("a", 1)}, []Attr{attr("b", 1)}) || !Same(l, before) {
		t.Error("same")
	}
	if v, ok := Find(l, "b"); v != num(1) || !ok {
		t.Error("find", v, ok)
	}
	if v, ok := Find(l, "x"); v != (value.Value{}) || ok {
		t.Error("find", v, ok)
	}
}

// TestFollows: P11.4.
func TestFollows(t *testing.T) {
	r := rand.New(rand.NewSource(16))
	var tab Table
	var lists [][]Attr
	var told [][]int
	for range 300 {
		l := many(r.Intn(9))
		r.Shuffle(len(l), func(i, j int) { l[i], l[j] = l[j], l[i] })
		for i := range l {
			l[i].Value = num(r.Intn(30))
		}
		tags, err := tab.Add(l...)
		if err != api.OK || tab.Check() != api.OK {
			t.Fatal(l, err)
		}
		lists, told = append(lists, l), append(told, tags)
	}
	for i := range lists {
		if l, err := tab.Attrs(told[i]...); err != api.OK || !Same(l, lists[i]) {
			t.Fatal(lists[i], l)
		}
	}
}
