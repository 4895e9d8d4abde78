package dec

import (
	"math"
	"math/big"
	"slices"
	"strconv"
	"strings"
	"testing"

	"stanchion/api"
)

// behind are bytes that may stand behind a form: such that look like more of it, too.
func behind() []string {
	return []string{"", ";", "0", "0;", "7;", "99999999999999999999999", "a", "\x00", "\xff\xfe", "1;x", "-1;", " "}
}

// numbers are the ends, all powers of 2 and of 10, and their neighbours.
func numbers() []uint64 {
	l := []uint64{0, 120, 1234567890, math.MaxInt64, math.MaxUint64}
	for i := range 64 {
		p := uint64(1) << i
		l = append(l, p-1, p, p+1)
	}
	for p, i := uint64(1), 0; i < 20; p, i = p*10, i+1 {
		l = append(l, p-1, p, p+1, p*7)
	}
	return l
}

// texts are such of any bytes, whose lengths have one to five figures.
func texts() []string {
	every := make([]byte, 256)
	for i := range every {
		every[i] = byte(i)
	}
	return []string{"", "a", ";", "0", "3;abc", "\x00", "\xff\xfe\xfd", "äöü", string(every),
		strings.Repeat("x", 9), strings.Repeat("x", 10), strings.Repeat("7", 99), strings.Repeat(";", 100),
		strings.Repeat("0;", 500), strings.Repeat("yz", api.MaxText/2)}
}

// rows are such without elements, with empty ones, with one, with many.
func rows() [][]string {
	return [][]string{nil, {}, {""}, {"a"}, {"", ""}, {"a", "", "bc"}, {"3;", "0;0;", "\xff"},
		slices.Repeat([]string{"q"}, 9), slices.Repeat([]string{""}, 10), slices.Repeat([]string{"5;"}, 1001), texts()}
}

// longest is how many bytes the longest text of a row has.
func longest(l []string) int {
	n := 0
	for _, t := range l {
		n = max(n, len(t))
	}
	return n
}

// toldNum is TakeNum, word by word as P1.2 tells it, with numbers of any size.
func toldNum(s string) (uint64, string, api.Errno) {
	n := 0
	for n < len(s) && strings.IndexByte("0123456789", s[n]) >= 0 {
		n++
	}
	v := new(big.Int)
	if n > 0 {
		v.SetString(s[:n], 10)
	}
	switch {
	case n > 20, n > 1 && s[0] == '0', !v.IsUint64():
		return 0, "", api.ErrForm
	case n == len(s):
		return 0, "", api.ErrMore
	case s[n] != ';', n == 0:
		return 0, "", api.ErrForm
	}
	return v.Uint64(), s[n+1:], api.OK
}

// toldText is TakeText as P1.3 tells it.
func toldText(s string, most int) (string, string, api.Errno) {
	v, rest, e := toldNum(s)
	length := new(big.Int).SetUint64(v)
	switch {
	case e != api.OK:
		return "", "", e
	case most < 0, length.Cmp(big.NewInt(int64(most))) > 0:
		return "", "", api.ErrBig
	case length.Cmp(big.NewInt(int64(len(rest)))) > 0:
		return "", "", api.ErrMore
	}
	return rest[:v], rest[v:], api.OK
}

// toldRow is TakeRow as P1.3 tells it.
func toldRow(s string, many, most int) ([]string, string, api.Errno) {
	v, rest, e := toldNum(s)
	switch {
	case e != api.OK:
		return nil, "", e
	case many < 0, new(big.Int).SetUint64(v).Cmp(big.NewInt(int64(many))) > 0:
		return nil, "", api.ErrBig
	}
	var l []string
	for ; v > 0; v-- {
		t, r, e := toldText(rest, most)
		if e != api.OK {
			return nil, "", e
		}
		l, rest = append(l, t), r
	}
	return l, rest, api.OK
}

// every calls f with all texts of at most n bytes out of signs.
func every(signs string, n int, f func(s string)) {
	f("")
	if n == 0 {
		return
	}
	for _, c := range []byte(signs) {
		every(signs, n-1, func(s string) {
			f(string(c) + s)
		})
	}
}

func wantNum(t *testing.T, s string, v uint64, rest string, e api.Errno) {
	t.Helper()
	if v1, rest1, e1 := TakeNum(s); v1 != v || rest1 != rest || e1 != e {
		t.Errorf("TakeNum(%.60q): %d, %.60q, %d; want %d, %.60q, %d", s, v1, rest1, e1, v, rest, e)
	}
}

func wantText(t *testing.T, s string, most int, text, rest string, e api.Errno) {
	t.Helper()
	if text1, rest1, e1 := TakeText(s, most); text1 != text || rest1 != rest || e1 != e {
		t.Errorf("TakeText(%.60q, %d): %.60q, %.60q, %d; want %.60q, %.60q, %d", s, most, text1, rest1, e1, text, rest, e)
	}
}

func wantRow(t *testing.T, s string, many, most int, l []string, rest string, e api.Errno) {
	t.Helper()
	if l1, rest1, e1 := TakeRow(s, many, most); !slices.Equal(l1, l) || rest1 != rest || e1 != e {
		t.Errorf("TakeRow(%.60q, %d, %d): %.60q, %.60q, %d; want %.60q, %.60q, %d", s, many, most, l1, rest1, e1, l, rest, e)
	}
}

// TestP1_1Num: a number's bytes are its figures and a semicolon.
func TestP1_1Num(t *testing.T) {
	for _, x := range []struct {
		v uint64
		s string
	}{{0, "0;"}, {1, "1;"}, {9, "9;"}, {10, "10;"}, {99, "99;"}, {100, "100;"}, {120, "120;"}, {9223372036854775808, "9223372036854775808;"},
		{9999999999999999999, "9999999999999999999;"}, {10000000000000000000, "10000000000000000000;"}, {math.MaxUint64, "18446744073709551615;"}} {
		if s := Num(x.v); s != x.s {
			t.Errorf("Num(%d): %q", x.v, s)
		}
	}
	for _, v := range numbers() {
		if s := Num(v); s != strconv.FormatUint(v, 10)+";" {
			t.Errorf("Num(%d): %q", v, s)
		}
	}
}

// TestP1_1Text: a text's bytes are the number of its bytes, not of its signs, and itself.
func TestP1_1Text(t *testing.T) {
	for _, x := range []struct{ t, s string }{{"", "0;"}, {"a", "1;a"}, {";", "1;;"}, {"ä", "2;ä"}, {"\xff", "1;\xff"}, {"0123456789", "10;0123456789"}} {
		if s := Text(x.t); s != x.s {
			t.Errorf("Text(%q): %q", x.t, s)
		}
	}
	for _, x := range texts() {
		if s := Text(x); s != strconv.Itoa(len(x))+";"+x {
			t.Errorf("Text(%.60q): %.60q", x, s)
		}
	}
}

// TestP1_1Row: a row's bytes are the number of its texts, and each of these.
func TestP1_1Row(t *testing.T) {
	for _, x := range []struct {
		l []string
		s string
	}{{nil, "0;"}, {[]string{}, "0;"}, {[]string{""}, "1;0;"}, {[]string{"", ""}, "2;0;0;"}, {[]string{"a", "", "bc"}, "3;1;a0;2;bc"},
		{slices.Repeat([]string{"0;"}, 11), "11;" + strings.Repeat("2;0;", 11)}} {
		if s := Row(x.l); s != x.s {
			t.Errorf("Row(%q): %q", x.l, s)
		}
	}
}

// TestP1_2Right: numbers, with whatever stands behind them.
func TestP1_2Right(t *testing.T) {
	for _, rest := range behind() {
		wantNum(t, "0;"+rest, 0, rest, api.OK)
		wantNum(t, "7;"+rest, 7, rest, api.OK)
		wantNum(t, "10;"+rest, 10, rest, api.OK)
		wantNum(t, "120;"+rest, 120, rest, api.OK)
		wantNum(t, "9999999999999999999;"+rest, 9999999999999999999, rest, api.OK)
		wantNum(t, "10000000000000000000;"+rest, 10000000000000000000, rest, api.OK)
		wantNum(t, "18446744073709551614;"+rest, math.MaxUint64-1, rest, api.OK)
		wantNum(t, "18446744073709551615;"+rest, math.MaxUint64, rest, api.OK)
	}
}

// TestP1_2More: figures that may become a number, and nothing behind them.
func TestP1_2More(t *testing.T) {
	for _, s := range []string{"", "0", "1", "12", "120", "9999999999999999999", "10000000000000000000", "18446744073709551615"} {
		wantNum(t, s, 0, "", api.ErrMore)
	}
}

// TestP1_2Form: what never becomes a number, whether bytes are missing or not.
func TestP1_2Form(t *testing.T) {
	for _, s := range []string{
		"00", "01", "07", "000", "0123456789", "00000000000000000000", "000000000000000000000", "00000000000000000001", // figures that begin with 0
		"18446744073709551616", "18446744073709551617", "18446744073709551620", "18446744073709551700", "18446744083709551615", "20000000000000000000", "99999999999999999999", // 20 figures, above 2^64 - 1
		"100000000000000000000", "184467440737095516150", "999999999999999999999", "36893488147419103232", "340282366920938463463374607431768211456", strings.Repeat("1", 1000), // more than 20, or such that go round
	} {
		for _, rest := range []string{"", ";", ";a", "a", "a;", ":"} {
			wantNum(t, s+rest, 0, "", api.ErrForm)
		}
	}
	for _, s := range []string{";", ";;", ";1", ";1;", "a", "a;", "-1;", "+1;", " 1;", "1 ;", "1:", "1/", "1a;", "1,2;", "1.0;", "0x1;", "1_0;", "1e3;", "/;", ":;", "\x00;", "\xff", "0a", "٣;", "1\n;"} {
		wantNum(t, s, 0, "", api.ErrForm)
	}
}

// TestP1_2Bytes: of all bytes, which may stand at the beginning, and which behind figures.
func TestP1_2Bytes(t *testing.T) {
	for i := range 256 {
		c := string([]byte{byte(i)})
		for _, s := range []string{c, c + ";", "1" + c, "1" + c + ";", "0" + c, "0" + c + ";", "1844674407370955161" + c + ";z", "18446744073709551615" + c} {
			v, rest, e := toldNum(s)
			wantNum(t, s, v, rest, e)
		}
	}
}

// TestP1_2Told: the answer is the told one, for all short texts and around all ends.
func TestP1_2Told(t *testing.T) {
	every("0189;:/a", 6, func(s string) {
		v, rest, e := toldNum(s)
		wantNum(t, s, v, rest, e)
	})
	ends := new(big.Int).Lsh(big.NewInt(1), 64)
	for d := int64(-2000); d <= 2000; d++ {
		f := new(big.Int).Add(ends, big.NewInt(d)).String()
		for _, s := range []string{f, f + ";", f + ";;", f + "0;", "0" + f + ";", f + "x"} {
			v, rest, e := toldNum(s)
			wantNum(t, s, v, rest, e)
		}
	}
	for _, v := range numbers() {
		for c := byte('0'); c <= '9'; c++ {
			s := strconv.FormatUint(v, 10) + string(c) + ";"
			v, rest, e := toldNum(s)
			wantNum(t, s, v, rest, e)
		}
	}
}

// TestP1_3Text: texts, their bounds, and bytes that are missing.
func TestP1_3Text(t *testing.T) {
	for _, rest := range behind() {
		wantText(t, "0;"+rest, 0, "", rest, api.OK)
		wantText(t, "2;ab"+rest, 2, "ab", rest, api.OK)
		wantText(t, "2;ab"+rest, 3, "ab", rest, api.OK)
		wantText(t, "2;ab"+rest, math.MaxInt, "ab", rest, api.OK)
		wantText(t, "2;ab"+rest, 1, "", "", api.ErrBig)
		wantText(t, "2;ab"+rest, 0, "", "", api.ErrBig)
		wantText(t, "2;ab"+rest, -1, "", "", api.ErrBig)
		wantText(t, "0;"+rest, -1, "", "", api.ErrBig)
		wantText(t, "0;"+rest, math.MinInt, "", "", api.ErrBig)
		wantText(t, "1;;"+rest, 1, ";", rest, api.OK)
		wantText(t, "3;\x00\xff;"+rest, 3, "\x00\xff;", rest, api.OK)
	}
	for _, s := range []string{"1;", "2;a", "3;ab", "10;123456789", "65536;" + strings.Repeat("a", 65535)} {
		wantText(t, s, math.MaxInt, "", "", api.ErrMore)
	}
	wantText(t, "5;abcde", 5, "abcde", "", api.OK)
	wantText(t, "3;ab", 3, "", "", api.ErrMore)
	wantText(t, "3;ab", 2, "", "", api.ErrBig) // the bound stands ahead of what is missing
	wantText(t, "9223372036854775807;a", math.MaxInt, "", "", api.ErrMore)
	wantText(t, "9223372036854775808;a", math.MaxInt, "", "", api.ErrBig)
	wantText(t, "18446744073709551615;a", math.MaxInt, "", "", api.ErrBig)
	wantText(t, "18446744073709551615;a", -1, "", "", api.ErrBig)
}

// TestP1_3TextNumber: an error of the number stands ahead of all bounds.
func TestP1_3TextNumber(t *testing.T) {
	for _, most := range []int{math.MinInt, -1, 0, 1, math.MaxInt} {
		wantText(t, "", most, "", "", api.ErrMore)
		wantText(t, "12", most, "", "", api.ErrMore)
		wantText(t, "02;ab", most, "", "", api.ErrForm)
		wantText(t, "00;", most, "", "", api.ErrForm)
		wantText(t, ";ab", most, "", "", api.ErrForm)
		wantText(t, "-1;ab", most, "", "", api.ErrForm)
		wantText(t, "2:ab", most, "", "", api.ErrForm)
		wantText(t, "18446744073709551616;ab", most, "", "", api.ErrForm)
	}
}

// TestP1_3Row: rows, their bounds, and each text's error.
func TestP1_3Row(t *testing.T) {
	for _, rest := range behind() {
		wantRow(t, "0;"+rest, 0, 0, nil, rest, api.OK)
		wantRow(t, "0;"+rest, 0, -1, nil, rest, api.OK) // without texts none is above a bound
		wantRow(t, "0;"+rest, -1, 5, nil, "", api.ErrBig)
		wantRow(t, "0;"+rest, math.MinInt, 5, nil, "", api.ErrBig)
		wantRow(t, "1;0;"+rest, 1, 0, []string{""}, rest, api.OK)
		wantRow(t, "1;0;"+rest, 1, -1, nil, "", api.ErrBig)
		wantRow(t, "3;1;a0;2;bc"+rest, 3, 2, []string{"a", "", "bc"}, rest, api.OK)
		wantRow(t, "3;1;a0;2;bc"+rest, math.MaxInt, math.MaxInt, []string{"a", "", "bc"}, rest, api.OK)
		wantRow(t, "3;1;a0;2;bc"+rest, 2, 2, nil, "", api.ErrBig)
		wantRow(t, "3;1;a0;2;bc"+rest, 0, 2, nil, "", api.ErrBig)
		wantRow(t, "3;1;a0;2;bc"+rest, -1, 2, nil, "", api.ErrBig)
		wantRow(t, "3;1;a0;2;bc"+rest, 3, 1, nil, "", api.ErrBig)
		wantRow(t, "3;1;a0;2;bc"+rest, 3, -1, nil, "", api.ErrBig)
	}
	wantRow(t, "2;1;a", 2, 1, nil, "", api.ErrMore)
	wantRow(t, "2;1;a1;", 2, 1, nil, "", api.ErrMore)
	wantRow(t, "2;1;a12", 2, 1, nil, "", api.ErrMore)
	wantRow(t, "2;1;a01;b", 2, 1, nil, "", api.ErrForm)
	wantRow(t, "2;1;ab", 2, 1, nil, "", api.ErrForm)
	wantRow(t, "2;1;a;", 2, 1, nil, "", api.ErrForm)
	wantRow(t, "2;2;a", 2, 1, nil, "", api.ErrBig)       // the first text's error, not the second one's
	wantRow(t, "3;1;a2;bc0x", 3, 1, nil, "", api.ErrBig) // one by one: the third one isn't looked at
	wantRow(t, "3;1;a0;x", 2, 1, nil, "", api.ErrBig)    // how many there are stands ahead of the texts
	wantRow(t, "1000000000;0;0;", math.MaxInt, 0, nil, "", api.ErrMore)
	wantRow(t, "9223372036854775807;1;a", math.MaxInt, 1, nil, "", api.ErrMore)
	wantRow(t, "9223372036854775808;1;a", math.MaxInt, 1, nil, "", api.ErrBig)
	wantRow(t, "18446744073709551615;1;a", math.MaxInt, 1, nil, "", api.ErrBig)
	wantRow(t, "18446744073709551615;1;a", -1, 1, nil, "", api.ErrBig)
}

// TestP1_3RowNumber: an error of the number stands ahead of all bounds.
func TestP1_3RowNumber(t *testing.T) {
	for _, bound := range []int{math.MinInt, -1, 0, 1, math.MaxInt} {
		wantRow(t, "", bound, bound, nil, "", api.ErrMore)
		wantRow(t, "3", bound, bound, nil, "", api.ErrMore)
		wantRow(t, "00;", bound, bound, nil, "", api.ErrForm)
		wantRow(t, "01;0;", bound, bound, nil, "", api.ErrForm)
		wantRow(t, ";0;", bound, bound, nil, "", api.ErrForm)
		wantRow(t, "1:0;", bound, bound, nil, "", api.ErrForm)
		wantRow(t, "18446744073709551616;", bound, bound, nil, "", api.ErrForm)
	}
}

// TestP1_3Told: the answer is the told one, for all short texts and all small bounds.
func TestP1_3Told(t *testing.T) {
	bounds := []int{math.MinInt, -1, 0, 1, 2, 3, math.MaxInt}
	every("012;a", 7, func(s string) {
		for _, most := range bounds {
			text, rest, e := toldText(s, most)
			wantText(t, s, most, text, rest, e)
			for _, many := range []int{-1, 0, 1, 2, math.MaxInt} {
				l, rest, e := toldRow(s, many, most)
				wantRow(t, s, many, most, l, rest, e)
			}
		}
	})
}

// TestP1_4Written: what was written is taken, whatever stands behind it.
func TestP1_4Written(t *testing.T) {
	for _, rest := range behind() {
		for _, v := range numbers() {
			wantNum(t, Num(v)+rest, v, rest, api.OK)
		}
		for _, x := range texts() {
			wantText(t, Text(x)+rest, len(x), x, rest, api.OK)
		}
		for _, l := range rows() {
			wantRow(t, Row(l)+rest, len(l), longest(l), l, rest, api.OK)
		}
	}
	for v := range uint64(100000) {
		wantNum(t, Num(v)+"1", v, "1", api.OK)
	}
}

// TestP1_4Taken: what is taken is written by the same bytes.
func TestP1_4Taken(t *testing.T) {
	taken := 0
	same := func(s, written, rest string) {
		taken++
		if written+rest != s {
			t.Errorf("%q: written as %q, with %q behind", s, written, rest)
		}
	}
	every("0129;a", 6, func(s string) {
		if v, rest, e := TakeNum(s); e == api.OK {
			same(s, Num(v), rest)
		}
		if x, rest, e := TakeText(s, math.MaxInt); e == api.OK {
			same(s, Text(x), rest)
		}
		if l, rest, e := TakeRow(s, math.MaxInt, math.MaxInt); e == api.OK {
			same(s, Row(l), rest)
		}
	})
	if taken == 0 {
		t.Error("nothing was taken")
	}
}

// TestP1_4Beginning: no beginning of a form is one: more bytes are missed in each.
func TestP1_4Beginning(t *testing.T) {
	for _, v := range numbers() {
		s := Num(v)
		for n := range len(s) {
			wantNum(t, s[:n], 0, "", api.ErrMore)
		}
	}
	for _, x := range texts() {
		s := Text(x)
		for n := range min(len(s), 600) {
			wantText(t, s[:n], len(x), "", "", api.ErrMore)
		}
		wantText(t, s[:len(s)-1], len(x), "", "", api.ErrMore)
	}
	for _, l := range rows() {
		s := Row(l)
		for n := range min(len(s), 600) {
			wantRow(t, s[:n], len(l), longest(l), nil, "", api.ErrMore)
		}
		wantRow(t, s[:len(s)-1], len(l), longest(l), nil, "", api.ErrMore)
	}
}

// TestR3: what is handed in stays as it is, and no two answers share a list.
func TestR3(t *testing.T) {
	l := []string{"a", "", "bc"}
	s := Row(l)
	if !slices.Equal(l, []string{"a", "", "bc"}) {
		t.Errorf("changed to %q", l)
	}
	one, _, _ := TakeRow(s, 3, 2)
	two, _, _ := TakeRow(s, 3, 2)
	one[0] = "z"
	one = append(one[:1], "y")
	if !slices.Equal(two, l) {
		t.Errorf("changed to %q", two)
	}
	wantRow(t, s, 3, 2, l, "", api.OK)
}
