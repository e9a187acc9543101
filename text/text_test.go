package text

import (
	"math"
	"math/rand"
	"slices"
	"strings"
	"testing"
	"unicode/utf8"

	"graticule/api"
)

// TestRight: P9.1.
func TestRight(t *testing.T) {
	for s, n := range map[string]int{"": 0, "a": 1, "aé": 2, "\x00\x7f": 2, "\u20ac\ufffd": 2, "\U0010ffff": 1, "\ud7ff\ue000": 2} {
		if c, ok := Count(s); !Right(s) || c != n || !ok {
			t.Errorf("%q %d %v", s, c, ok)
		}
	}
	for _, s := range []string{"\xff", "a\x80", "\xc0\x80", "\xe0\x80\x80", "\xed\xa0\x80", "\xed\xbf\xbf", "\xf4\x90\x80\x80", "\xe2\x82", "\xf8\x88\x80\x80\x80", "ab\xc3"} {
		if c, ok := Count(s); Right(s) || c != 0 || ok {
			t.Errorf("%q", s)
		}
		if _, err := Quote(s); err != api.ErrText || Cut(s, 9) != "" || Name(s) {
			t.Errorf("%q", s)
		}
	}
}

// TestCut: P9.1.
func TestCut(t *testing.T) {
	for _, x := range []struct {
		s string
		n int
		w string
	}{{"aéb", 2, "aé"}, {"aéb", 3, "aéb"}, {"aéb", 4, "aéb"}, {"aéb", 0, ""}, {"aéb", -1, ""}, {"aéb", math.MinInt, ""}, {"aéb", math.MaxInt, "aéb"}, {"", 5, ""}, {"éa", 1, "é"}} {
		if got := Cut(x.s, x.n); got != x.w {
			t.Errorf("%q %d %q", x.s, x.n, got)
		}
	}
}

// TestName: P9.1.
func TestName(t *testing.T) {
	for _, s := range []string{"a", "Z", "_", "a-b.c_9", "é", "\u0080", strings.Repeat("a", 32), strings.Repeat("é", 32), "a\U0010ffff"} {
		if !Name(s) {
			t.Errorf("%q", s)
		}
	}
	for _, s := range []string{"", "9", "-a", ".a", "a b", "a\"", "a\x7f", "@", "[", "`", "{", "a/", "a:", strings.Repeat("a", 33), strings.Repeat("é", 33), "a\xff"} {
		if Name(s) {
			t.Errorf("%q", s)
		}
	}
}

// TestQuote: P9.2.
func TestQuote(t *testing.T) {
	for s, w := range map[string]string{"": `""`, "a\"b\n": `"a\"b\n"`, "\\\t\r\x00\x1f\x7f": `"\\\t\x0d\x00\x1f\x7f"`, "é €": `"é €"`, "\u0080": "\"\u0080\""} {
		if got, err := Quote(s); got != w || err != api.OK {
			t.Errorf("%q %q", s, got)
		}
	}
	for _, x := range []struct {
		s, text string
		size    int
		err     api.Errno
	}{
		{`"ab" c`, "ab", 4, api.OK}, {`""`, "", 2, api.OK}, {`"\\\"\n\t\x00\x7f"`, "\\\"\n\t\x00\x7f", 18, api.OK}, {`"é"`, "é", 4, api.OK}, {"\"\ufffd\"", "\ufffd", 5, api.OK},
		{"", "", 0, api.ErrEnd}, {"a", "", 0, api.ErrForm}, {"\xff", "", 0, api.ErrForm}, {`"`, "", 0, api.ErrEnd}, {`"ab`, "", 0, api.ErrEnd},
		{"\"\xff", "", 0, api.ErrText}, {"\"\xe2\x82", "", 0, api.ErrText}, {"\"\xed\xa0\x80\"", "", 0, api.ErrText}, {"\"a\nb\"", "", 0, api.ErrForm}, {"\"\x7f\"", "", 0, api.ErrForm},
		{`"\`, "", 0, api.ErrEnd}, {`"\a"`, "", 0, api.ErrForm}, {`"\N"`, "", 0, api.ErrForm}, {"\"\\\xff\"", "", 0, api.ErrForm}, {`"\x`, "", 0, api.ErrEnd}, {`"\x0`, "", 0, api.ErrEnd}, {`"\xg`, "", 0, api.ErrForm}, {`"\x0G"`, "", 0, api.ErrForm},
		{`"\x0A"`, "", 0, api.ErrForm}, {`"\x0a"`, "", 0, api.ErrForm}, {`"\x09"`, "", 0, api.ErrForm}, {`"\x22"`, "", 0, api.ErrForm}, {`"\x5c"`, "", 0, api.ErrForm}, {`"\x41"`, "", 0, api.ErrForm}, {`"\x80"`, "", 0, api.ErrForm}, {`"\x20"`, "", 0, api.ErrForm},
		{`"\x00`, "", 0, api.ErrEnd},
	} {
		if text, size, err := Unquote(x.s); text != x.text || size != x.size || err != x.err {
			t.Errorf("%q %q %d %d", x.s, text, size, err)
		}
	}
}

// TestWords: P9.3.
func TestWords(t *testing.T) {
	for _, x := range []struct {
		s     string
		l     []Word
		place int
		err   api.Errno
	}{
		{"", nil, 0, api.OK}, {`face "x y" 3`, []Word{{"face", false}, {"x y", true}, {"3", false}}, 0, api.OK}, {`"" a`, []Word{{"", true}, {"a", false}}, 0, api.OK}, {"a\tb é", []Word{{"a\tb", false}, {"é", false}}, 0, api.OK},
		{"a  b", nil, 2, api.ErrForm}, {" ", nil, 0, api.ErrForm}, {"a ", nil, 2, api.ErrForm}, {`"a" `, nil, 4, api.ErrForm}, {" a", nil, 0, api.ErrForm},
		{`a"b`, nil, 0, api.ErrForm}, {`x a"`, nil, 2, api.ErrForm}, {"x \xff\"", nil, 2, api.ErrForm}, {"x \xff", nil, 2, api.ErrText},
		{`x "a"b`, nil, 2, api.ErrForm}, {`x "a""b"`, nil, 2, api.ErrForm}, {`x "a`, nil, 2, api.ErrEnd}, {`x "\q"`, nil, 2, api.ErrForm}, {"x \"\xff\"", nil, 2, api.ErrText}, {"\xff \"", nil, 0, api.ErrText},
	} {
		if l, place, err := Words(x.s); !slices.Equal(l, x.l) || place != x.place || err != x.err {
			t.Errorf("%q %v %d %d", x.s, l, place, err)
		}
	}
}

// TestNumber: P9.4.
func TestNumber(t *testing.T) {
	for n, s := range map[int]string{0: "0", 7: "7", -7: "-7", 1 << 60: "1152921504606846976", -1 << 60: "-1152921504606846976", 100: "100"} {
		if Digits(n) != s {
			t.Error(n, Digits(n))
		}
		if got, err := Number(s); got != n || err != api.OK {
			t.Error(s, got, err)
		}
	}
	if Digits(math.MinInt) != "-9223372036854775808" || Digits(math.MaxInt) != "9223372036854775807" {
		t.Error("the farthest")
	}
	for s, e := range map[string]api.Errno{"": api.ErrForm, "-": api.ErrForm, "-0": api.ErrForm, "00": api.ErrForm, "01": api.ErrForm, "-01": api.ErrForm, "+1": api.ErrForm, "1 ": api.ErrForm, "1a": api.ErrForm, "--1": api.ErrForm, "٣": api.ErrForm, "\xff": api.ErrForm,
		"1152921504606846977": api.ErrRange, "-1152921504606846977": api.ErrRange, strings.Repeat("9", 100): api.ErrRange, "-" + strings.Repeat("1", 40): api.ErrRange, strings.Repeat("9", 100) + "x": api.ErrForm} {
		if got, err := Number(s); got != 0 || err != e {
			t.Error(s, got, err)
		}
	}
}

// TestFollows: P9.5.
func TestFollows(t *testing.T) {
	r := rand.New(rand.NewSource(14))
	read := 0
	for range 30000 {
		var out []rune
		for range r.Intn(6) {
			out = append(out, []rune{rune(r.Intn(130)), rune(r.Intn(0x3000)), 0x10ffff, '"', '\\'}[r.Intn(5)])
		}
		s := string(out)
		q, err := Quote(s)
		if err != api.OK || !utf8.ValidString(q) {
			t.Fatal(s)
		}
		if got, size, err := Unquote(q + "x"); got != s || size != len(q) || err != api.OK {
			t.Fatalf("%q %q", s, q)
		}
		if l, _, err := Words("a " + q + " " + q); err != api.OK || len(l) != 3 || l[2] != (Word{s, true}) {
			t.Fatalf("%q", q)
		}
		b := []byte{'"'}
		for range r.Intn(7) {
			b = append(b, `\"nxt01fa`[r.Intn(9)])
		}
		if got, size, err := Unquote(string(b)); err == api.OK {
			read++
			if again, _ := Quote(got); again != string(b[:size]) {
				t.Fatalf("%q", b)
			}
		}
		n := (r.Int() - r.Int()) >> r.Intn(63) % (1<<60 + 1)
		if got, err := Number(Digits(n)); got != n || err != api.OK {
			t.Fatal(n)
		}
	}
	if read < 100 {
		t.Error("too few were read", read)
	}
}
