package frame

import (
	"slices"
	"strconv"
	"strings"
	"testing"

	"stanchion/api"
)

// TestP14_1Wrap: texts of any bytes, of lengths with one to four figures, up to the bound.
func TestP14_1Wrap(t *testing.T) {
	for _, x := range []struct{ s, frame string }{
		{"", "0;"},
		{"a", "1;a"},
		{"abc", "3;abc"},
		{";", "1;;"},
		{"3;abc", "5;3;abc"},
		{"\x00", "1;\x00"},
		{"\xff\xfe", "2;\xff\xfe"},
		{"ä", "2;ä"},
		{"€", "3;€"},
		{long(9), "9;" + long(9)},
		{long(10), "10;" + long(10)},
		{long(99), "99;" + long(99)},
		{long(100), "100;" + long(100)},
		{long(999), "999;" + long(999)},
		{long(1000), "1000;" + long(1000)},
		{long(2047), "2047;" + long(2047)},
		{long(2048), "2048;" + long(2048)},
		{strings.Repeat("€", 682), "2046;" + strings.Repeat("€", 682)},
		{strings.Repeat("ä", 1024), "2048;" + strings.Repeat("ä", 1024)},
	} {
		if f, e := Wrap(x.s); f != x.frame || e != api.OK {
			t.Errorf("Wrap(%.60q): %.60q, %d", x.s, f, e)
		}
	}
}

// TestP14_1WrapBig: a byte more than the bound, and many more; bytes count, not signs.
func TestP14_1WrapBig(t *testing.T) {
	for _, s := range []string{long(2049), long(2050), long(4096), long(api.MaxText), long(1 << 20), strings.Repeat("\x00", 2049), strings.Repeat("ä", 1025), strings.Repeat("€", 683)} {
		if f, e := Wrap(s); f != "" || e != api.ErrBig {
			t.Errorf("Wrap of %d bytes: %.60q, %d", len(s), f, e)
		}
	}
}

// goesOn are beginnings of a frame that isn't whole.
func goesOn() []string {
	return []string{"", "0", "1", "7", "10", "1;", "2;a", "2;;", "2;0", "3;1;", "10;123456789", "20", "204", "2048", "2048;", "2048;a", "2048;" + long(2047), "2047;" + long(2046),
		"2049", "9999", "20480", "99999999", "9223372036854775808", "10000000000000000000", "18446744073709551609", "18446744073709551615"}
}

// isNone are bytes that are no beginning of a frame.
func isNone() []string {
	return []string{";", "a", "a;", "-", "-1;a", "+1;a", " 1;a", "1 ;a", "1:a", "1,a", "1\x00;", "1a", "1a;", "\x00", "\n", "\xff", "\xff\xff\xff", "０;", "0x1;a", "1.0;a", "1e0;a",
		"00", "00;", "01", "01;a", "007;", "0a", "0123456789",
		"2049;", "2049;" + long(2049), "2050;", "3000;" + long(3000), "9999;", "10000;", "20480;", "65536;", "65537;", "4294967296;", "4294967297;a", "9223372036854775807;", "9223372036854775808;a", "18446744073709551615;",
		"18446744073709551616", "18446744073709551617;a", "18446744073709551620", "20000000000000000000", "99999999999999999999", "100000000000000000000", "000000000000000000000", "184467440737095516150", strings.Repeat("9", 100), strings.Repeat("0", 21) + ";"}
}

// fronts are rows of texts whose frames stand ahead of something.
func fronts() [][]string {
	return [][]string{nil, {""}, {"a"}, {";"}, {"1;a"}, {"", "", ""}, {"ab", "", "c"}, {"0", "00", "\xff\x00"}, {long(2048)}, {long(2048), "", long(2047), "a"}, slices.Repeat([]string{"x"}, 1000), slices.Repeat([]string{""}, 3000)}
}

// TestP14_1Whole: the chapter's and other ordinary bytes.
func TestP14_1Whole(t *testing.T) {
	for _, x := range []struct {
		s    string
		l    []string
		n    int
		more bool
	}{
		{"", nil, 0, true},
		{"0;", list(""), 2, true},
		{"1;a", list("a"), 3, true},
		{"1;a1;", list("a"), 3, true},
		{"2;ab1;c", list("ab", "c"), 7, true},
		{"2;ab1;c2;d", list("ab", "c"), 7, true},
		{"2;ab1;cx", list("ab", "c"), 7, false},
		{"0;0;0;", list("", "", ""), 6, true},
		{"0;;", list(""), 2, false},
		{"1;ab", list("a"), 3, false},
		{"1;a2", list("a"), 3, true},
		{"1;a02;bc", list("a"), 3, false},
		{"5;1;a1;1;b", list("1;a1;", "b"), 10, true},
		{"1;ä", list("\xc3"), 3, false},
		{"2;ä", list("ä"), 4, true},
		{"1;\x00", list("\x00"), 3, true},
		{"1;a2049;b1;c", list("a"), 3, false},
		{"1;;1;0", list(";", "0"), 6, true},
	} {
		wantWhole(t, x.s, x.l, x.n, x.more)
	}
}

// TestP14_1WholeRest: behind frames, many or none, what may go on and what may not; and all lengths that may be.
func TestP14_1WholeRest(t *testing.T) {
	for _, l := range fronts() {
		s := framed(l...)
		for _, rest := range goesOn() {
			wantWhole(t, s+rest, l, len(s), true)
		}
		for _, rest := range isNone() {
			wantWhole(t, s+rest, l, len(s), false)
		}
	}
	for n := range 2049 {
		s := strconv.Itoa(n) + ";" + long(n)
		wantWhole(t, s, list(long(n)), len(s), true)
		if n > 0 {
			wantWhole(t, s[:len(s)-1], nil, 0, true)
		}
	}
	for n := 2049; n < 2100; n++ {
		wantWhole(t, strconv.Itoa(n)+";"+long(n), nil, 0, false)
	}
}

// TestP14_2Example: the chapter's.
func TestP14_2Example(t *testing.T) {
	b, l, e := Feed(api.Buf{}, "2;a")
	if b.Rest != "2;a" || b.Bad || len(l) != 0 || e != api.OK {
		t.Errorf("2;a: %v, %q, %d", b, l, e)
	}
	b, l, e = Feed(b, "b1;c")
	if b != (api.Buf{}) || !slices.Equal(l, list("ab", "c")) || e != api.OK {
		t.Errorf("b1;c: %v, %q, %d", b, l, e)
	}
}

// TestP14_2Feed: a rest and a piece, either of them empty, or more than a frame.
func TestP14_2Feed(t *testing.T) {
	for _, x := range []struct {
		rest, chunk, after string
		l                  []string
	}{
		{"", "", "", nil},
		{"", "0;", "", list("")},
		{"", "1;a", "", list("a")},
		{"", "3;ab", "3;ab", nil},
		{"3;ab", "", "3;ab", nil},
		{"3;ab", "c", "", list("abc")},
		{"3;ab", "c3", "3", list("abc")},
		{"3;ab", "c1;d2;e", "2;e", list("abc", "d")},
		{"1", "0", "10", nil},
		{"1", "0;", "10;", nil},
		{"1", ";a", "", list("a")},
		{"0", ";", "", list("")},
		{"0", ";0", "0", list("")},
		{"204", "8;", "2048;", nil},
		{"2048;" + long(2047), "", "2048;" + long(2047), nil},
		{"2048;" + long(2047), "x", "", list(long(2047) + "x")},
		{"2048;" + long(2047), "x2048;" + long(2047), "2048;" + long(2047), list(long(2047) + "x")},
		{"", framed(long(2048), "", long(2048)), "", list(long(2048), "", long(2048))},
		// Rests that no Feed makes.
		{"1;a", "", "", list("a")},
		{"1;a1;b2", ";c", "2;c", list("a", "b")},
		{framed(slices.Repeat(list(long(2048)), 5)...), "1;", "1;", slices.Repeat(list(long(2048)), 5)},
	} {
		wantFeed(t, api.Buf{Rest: x.rest}, x.chunk, told{texts: x.l, b: api.Buf{Rest: x.after}})
	}
}

// TestP14_2FeedNone: the texts ahead of what is none are told, and the buffer is Bad and empty.
func TestP14_2FeedNone(t *testing.T) {
	for _, x := range []struct {
		rest, chunk string
		l           []string
	}{
		{"", "x", nil},
		{"", ";", nil},
		{"", "00", nil},
		{"", "2049;", nil},
		{"", "1;ab", list("a")},
		{"", "1;a0;01;b1;c", list("a", "")},
		{"0", "0", nil},
		{"0", "1;a", nil},
		{"1", "a", nil},
		{"1;", "1;a", list("1")},
		{"3;ab", "cx", list("abc")},
		{"3;ab", "c1;d;", list("abc", "d")},
		{"204", "9;", nil},
		{"2049", ";", nil},
		{"18446744073709551615", "0", nil},
		{"18446744073709551615", ";", nil},
		{"1844674407370955161", "6", nil},
		{"2048;" + long(2047), "ab", list(long(2047) + "a")},
		// Rests that no Feed makes.
		{"x", "", nil},
		{"x", "1;a", nil},
		{"1;ax", "", list("a")},
		{"2049;", "", nil},
	} {
		wantFeed(t, api.Buf{Rest: x.rest}, x.chunk, none(x.l))
	}
}

// TestP14_2FeedRest: behind frames, many or none, what may go on and what may not, cut anywhere near the end of the frames, or not at all.
func TestP14_2FeedRest(t *testing.T) {
	for _, l := range fronts() {
		s := framed(l...)
		for at := max(0, len(s)-2053); at <= len(s); at += 1 + at%97 {
			_, n, _ := toldWhole(s[:at])
			some, _, _ := toldWhole(s[n:])
			for _, rest := range goesOn() {
				wantFeed(t, api.Buf{Rest: s[n:at]}, s[at:]+rest, told{texts: some, b: api.Buf{Rest: rest}})
			}
			for _, rest := range isNone() {
				wantFeed(t, api.Buf{Rest: s[n:at]}, s[at:]+rest, none(some))
			}
		}
	}
}

// TestP14_2FeedBad: a Bad buffer takes nothing, and stays as it was, its Rest too.
func TestP14_2FeedBad(t *testing.T) {
	for _, rest := range []string{"", "x", "1;a", "1;", "2;a", "2048;" + long(2048), long(5000)} {
		for _, chunk := range []string{"", "1;a", "a", "x", ";", "0;0;", "2049;", framed(long(2048)), long(5000)} {
			b := api.Buf{Rest: rest, Bad: true}
			wantFeed(t, b, chunk, told{b: b, e: api.ErrState})
		}
	}
}

// TestP14_2FeedBadStays: once bytes were none, no piece is taken any more, whatever it is.
func TestP14_2FeedBadStays(t *testing.T) {
	for _, s := range isNone() {
		b, _, e := Feed(api.Buf{}, s)
		if e != api.ErrForm {
			t.Errorf("%.60q: %d", s, e)
		}
		for _, chunk := range append(goesOn(), "1;a", "0;", s) {
			wantFeed(t, b, chunk, told{b: api.Buf{Bad: true}, e: api.ErrState})
		}
	}
}
