package run

import (
	"fmt"
	"slices"
	"strconv"
	"strings"
	"testing"

	"stanchion/api"
)

// most is how many bytes a key has, and a value, at most.
const most = 65536

// toldMayBe: may a row be, as its words tell it: of any two pairs the one ahead has the key that is below.
func toldMayBe(l []api.Pair) bool {
	for i, p := range l {
		if len(p.Key) > most || len(p.Val) > most {
			return false
		}
		for j := range i {
			if !below(l[j].Key, p.Key) {
				return false
			}
		}
	}
	return true
}

// told are the bytes of a number of pairs and of pairs, whether these may be, and are so many, or not.
func told(n int, l []api.Pair) string {
	var b strings.Builder
	fmt.Fprintf(&b, "%d;", n)
	for _, p := range l {
		fmt.Fprintf(&b, "%d;%s%d;%s", len(p.Key), p.Key, len(p.Val), p.Val)
	}
	return sealed(b.String())
}

// toldTake takes what looks like a row's bytes off by strconv, and is content if these are the row's very own.
func toldTake(s string) ([]api.Pair, bool) {
	body, _ := cutText(s)
	count, rest, _ := strings.Cut(body, ";")
	n, _ := strconv.Atoi(count)
	var l []api.Pair
	for i := 0; i < n && rest != ""; i++ {
		var p api.Pair
		p.Key, rest = cutText(rest)
		p.Val, rest = cutText(rest)
		l = append(l, p)
	}
	return l, toldMayBe(l) && told(len(l), l) == s
}

// cutText is the text at the beginning of s, and what stands behind, as far as it is there.
func cutText(s string) (string, string) {
	length, rest, _ := strings.Cut(s, ";")
	n, _ := strconv.Atoi(length)
	n = min(max(n, 0), len(rest))
	return rest[:n], rest[n:]
}

// wantBytes: what Bytes tells of a row; it is asked with spare room, which it doesn't write into, and twice.
func wantBytes(t *testing.T, l []api.Pair, s string, e api.Errno) {
	t.Helper()
	spare := api.Pair{Key: "spare", Val: "room"}
	in := roomy(l, spare)
	for range 2 {
		if s1, e1 := Bytes(in); s1 != s || e1 != e {
			t.Errorf("%.60q: %.60q (%d), %d; want %.60q (%d), %d", l, s1, len(s1), e1, s, len(s), e)
		}
		wantUntouched(t, in, l, spare, "Bytes")
	}
}

// wantTake: what Take tells of bytes; the row is the caller's own.
func wantTake(t *testing.T, s string, l []api.Pair, e api.Errno) {
	t.Helper()
	for range 2 {
		l1, e1 := Take(s)
		if !slices.Equal(l1, l) || e1 != e {
			t.Errorf("%.60q (%d bytes): %.60q, %d; want %.60q, %d", s, len(s), l1, e1, l, e)
		}
		spoil(l1, api.Pair{Key: "other", Val: "other"})
	}
}

// rows are such as may be: of no pair, of one, of many; with empty keys and values, bytes of 128 and above, such as look like bytes of rows, and great ones.
func rows() [][]api.Pair {
	var many []api.Pair
	for i := range 1000 {
		many = append(many, api.Pair{Key: fmt.Sprintf("%04d", i), Val: text(i % 7)})
	}
	return [][]api.Pair{
		nil,
		row("", ""),
		row("a", "1"),
		row("a", ""),
		row("", "1"),
		row("a", "1", "b", ""),
		row("", "", "a", "", "b", ""),
		row("", "x", "\x00", "y"),
		row("A", "9", "B", "8", "a", "7"),
		row("10", "1", "9", "2"),
		row("a", "same", "aa", "same", "ab", "same", "b", "same"),
		row("z", "\x7f", "\x80", "\x80\x00", "\xc3", "\xff", "ä", "ö", "\xff", "\xc3", "\xff\xff", "\xff"),
		row("\xff", "\xfe", "\xff\x00", "\x00"),
		row("0;", "1;1;a1;1", "1;", told(1, row("a", "1")), ";", ";;"),
		row("0;0;", "2;0;0;", "1;0;0;", ""),
		row(text(31), text(63), text(32), text(64), text(33), text(65)),
		row("a", text(most-1), "b", text(most)),
		row(text(most-1), "", text(most), ""),
		row("", text(most), text(most), text(most)),
		many,
	}
}

// wrong are rows that may not be.
func wrong() [][]api.Pair {
	return [][]api.Pair{
		row("b", "1", "a", "2"),
		row("a", "1", "a", "1"),
		row("a", "1", "a", "2"),
		row("", "", "", ""),
		row("a", "1", "", ""),
		row("aa", "1", "a", "2"),
		row("ab", "1", "aa", "2", "b", "3"),
		row("a", "", "b", "", "b", ""),
		row("a", "", "c", "", "b", ""),
		row("b", "", "c", "", "a", ""),
		row("a", "", "b", "", "a", ""),
		row("a", "", "A", ""),
		row("9", "", "10", ""),
		row("\x80", "", "z", ""),
		row("\xff", "", "\xc3", ""),
		row(text(most+1), ""),
		row("", text(most+1)),
		row(text(most+1), text(most+1)),
		row(text(most+2), "1"),
		row("b", text(70000)),
		row("a", "1", "b", text(most+1)),
		row("a", text(most+1), "b", "1"),
		row("a", "1", text(most+1), "1"),
		row("A", "1", text(most+1), "1", "b", "2"),
		row(text(most+1), "1", "a", "1"),
		row(text(most), "1", "a", text(most+1)),
	}
}

// TestP6_1Bytes: rows that may be.
func TestP6_1Bytes(t *testing.T) {
	for _, l := range rows() {
		wantBytes(t, l, told(len(l), l), api.OK)
	}
	wantBytes(t, nil, "2;0;10289260;", api.OK)
	wantBytes(t, []api.Pair{}, "2;0;10289260;", api.OK)
	wantBytes(t, row("a", "1"), "8;1;1;a1;1137888215;", api.OK)
	wantBytes(t, row("", ""), sealed("1;0;0;"), api.OK)
	wantBytes(t, row("\xff", "", "\xff\x00", ";"), sealed("2;1;\xff0;2;\xff\x001;;"), api.OK)
}

// TestP6_1BytesWrong: rows that aren't right, keys and values that are too long, at any place.
func TestP6_1BytesWrong(t *testing.T) {
	for _, l := range wrong() {
		wantBytes(t, l, "", api.ErrArg)
	}
	for at := range 9 {
		for fault := range 4 {
			l := row("a", "1", "b", "2", "c", "3", "d", "4", "e", "5", "f", "6", "g", "7", "h", "8", "i", "9")
			switch fault {
			case 0:
				l[at].Val = text(most + 1)
			case 1:
				l[at].Key += text(most)
			case 2:
				l[at].Key = l[(at+8)%9].Key
			case 3:
				l[at].Key, l[(at+1)%9].Key = l[(at+1)%9].Key, l[at].Key
			}
			wantBytes(t, l, "", api.ErrArg)
			wantTake(t, told(len(l), l), nil, api.ErrForm)
		}
	}
}

// TestP6_1Take: the bytes of rows that may be.
func TestP6_1Take(t *testing.T) {
	for _, l := range rows() {
		wantTake(t, told(len(l), l), l, api.OK)
	}
	wantTake(t, "2;0;10289260;", nil, api.OK)
	wantTake(t, "8;1;1;a1;1137888215;", row("a", "1"), api.OK)
}

// TestP6_1TakeWrong: rows that may not be, and such as are more pairs or fewer than is told, inside sums that fit.
func TestP6_1TakeWrong(t *testing.T) {
	for _, l := range wrong() {
		wantTake(t, told(len(l), l), nil, api.ErrForm)
	}
	for _, l := range rows() {
		for _, n := range []int{-1, 0, 1, 2, 3, len(l) - 1, len(l) + 1, len(l) + 2, 10 * (len(l) + 1), most, 1 << 62} {
			if n != len(l) {
				wantTake(t, told(n, l), nil, api.ErrForm)
			}
		}
	}
	for _, body := range []string{
		"", "0", ";", "a", "00;", "0;;", "0;0;", "0;0;0;", "0;\x00", " 0;", "0 ;", "-0;", "+0;", "0x0;",
		"01;0;0;", "1;00;0;", "1;0;00;", "1;0;0", "1;0;", "1;0", "1;", "1", "1;0;0;;", "1;0;0;0;", "1;0;0;a", "1;;0;", "1;0;;",
		"1;1;a1;", "1;1;a2;1", "1;2;a1;1", "1;1;a0;1", "1;0;a1;1", "1;1;a1;12", "1;1;a01;1", "1;01;a1;1", "01;1;a1;1", "1,1;a1;1", "1;1,a1;1", "1;1;a1,1",
		"1;1;a", "1;1;a1", "2;1;a1;1", "2;1;a1;11;b", "2;1;a1;11;b1;", "0;1;a1;1", "1;1;a1;11;b1;2", "3;1;a1;11;b1;2", "1;-1;a1;1", "-1;1;a1;1", "1;+1;a1;1", "1; 1;a1;1", "1;1;a 1;1",
		"18446744073709551615;", "18446744073709551616;", "18446744073709551617;1;a1;1", "99999999999999999999;1;a1;1", "4294967297;1;a1;1", "9223372036854775808;1;a1;1",
		"1;18446744073709551617;a1;1", "1;18446744073709551615;a1;1", "1;9223372036854775807;a1;1", "1;1;a18446744073709551617;1", "1;1;a4294967297;1", "1;65537;a1;1", "1;1;a65537;1",
		told(1, row("a", "1")), "1;1;a1;1" + "1;1;a1;1", "0;" + told(0, nil),
	} {
		wantTake(t, sealed(body), nil, api.ErrForm)
	}
}

// TestP6_1TakeSeal: bytes that aren't one sealed text: an error of chapter 2's Open, whichever, and more behind.
func TestP6_1TakeSeal(t *testing.T) {
	for _, s := range []string{
		"", ";", "0", "0;", "0;1;", "1", "2;", "2;0", "2;0;", "2;0;1", "2;0;10289260", "2;0;10289260:", "2;0;10289261;", "2;0;1;", "2;0;;", "2;0;0;", "2;0;010289260;", "02;0;10289260;",
		"2;0;-10289260;", "2;0;+10289260;", " 2;0;10289260;", "2;0; 10289260;", "2;0;10289260;\x00", "2;0;10289260;;", "2;0;10289260;0;", "2;0;10289260;2;0;10289260;", "0;1;2;0;10289260;",
		"1;0;10289260;", "3;0;10289260;", "13;0;10289260;", "-2;0;10289260;", "2;0;4305256556;", "2;0;18446744073719840876;", "2;0;99999999999999999999;", "2;0;18446744073709551616;",
		"18446744073709551618;0;10289260;", "18446744073709551615;0;10289260;", "99999999999999999999;0;10289260;", "9223372036854775807;0;10289260;", "9223372036854775808;0;10289260;", "4294967298;0;10289260;",
		"8;1;1;a1;1137888216;", "8;1;1;b1;1137888215;", "8;1;1;a1;2137888215;", "8;1;1;1a;1137888215;", "7;1;1;a1;1137888215;", "9;1;1;a1;1137888215;", "1;1;a1;1137888215;", "1;1;a1;1",
	} {
		wantTake(t, s, nil, api.ErrForm)
		if _, is := toldTake(s); is {
			t.Errorf("%q is told", s)
		}
	}
}

// TestP6_1TakeTorn: bytes that are cut anywhere, that have one more or one less anywhere, or another one.
func TestP6_1TakeTorn(t *testing.T) {
	for _, l := range rows() {
		s := told(len(l), l)
		if len(s) > 300 {
			continue
		}
		for i := range len(s) + 1 {
			if i < len(s) {
				wantTake(t, s[:i], nil, api.ErrForm)
				wantTake(t, s[i+1:], nil, api.ErrForm)
				wantTake(t, s[:i]+s[i+1:], nil, api.ErrForm)
			}
			for c := range 256 {
				one := string([]byte{byte(c)})
				wantTake(t, s[:i]+one+s[i:], nil, api.ErrForm)
				if i < len(s) && s[i] != byte(c) {
					wantTake(t, s[:i]+one+s[i+1:], nil, api.ErrForm)
				}
			}
		}
	}
}

// TestP6_1Told: all short texts inside sums that fit, of the bytes of which rows are made: which are taken, and as what, as it is told.
func TestP6_1Told(t *testing.T) {
	n := 0
	for _, front := range []string{"", "1;", "2;", "2;0;0;", "2;0;1;a", "3;0;0;1;a0;", "2;1;a0;"} {
		for _, behind := range words("012;a", 6) {
			s := sealed(front + behind)
			l, is := toldTake(s)
			if is {
				n++
				wantBytes(t, l, s, api.OK)
				wantTake(t, s, l, api.OK)
			} else {
				wantTake(t, s, nil, api.ErrForm)
			}
		}
	}
	if n != 208 {
		t.Errorf("%d were taken", n)
	}
}

// words are all texts of at most n of some bytes.
func words(some string, n int) []string {
	all := []string{""}
	last := all
	for range n {
		var longer []string
		for _, s := range last {
			for i := range some {
				longer = append(longer, s+some[i:i+1])
			}
		}
		all, last = append(all, longer...), longer
	}
	return all
}

// TestP6_4Unlike: rows that are unlike have bytes that are unlike.
func TestP6_4Unlike(t *testing.T) {
	seen := map[string]int{}
	for i, l := range rows() {
		s, e := Bytes(l)
		if at, is := seen[s]; is || e != api.OK {
			t.Errorf("the row %d, %d: the bytes of the row %d", i, e, at)
		}
		seen[s] = i
	}
}
