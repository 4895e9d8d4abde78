package span

import (
	"bytes"
	"fmt"
	"math"
	"strings"
	"testing"

	"stanchion/api"
)

// from is a span of a mode, from lo on, below hi.
func from(mode int, lo, hi string) api.Want {
	return api.Want{Mode: mode, Lo: lo, Hi: hi}
}

// show tells a span.
func show(w api.Want) string {
	return fmt.Sprintf("(the mode %d, from %.50q, below %.50q)", w.Mode, w.Lo, w.Hi)
}

// toldBelow: is a key below another one, by their bytes?
func toldBelow(a, b string) bool {
	return bytes.Compare([]byte(a), []byte(b)) < 0
}

// toldIn is In, as its words tell it.
func toldIn(w api.Want, key string) bool {
	if toldBelow(key, w.Lo) {
		return false
	}
	return w.Hi == "" || toldBelow(key, w.Hi)
}

// words are all texts of at most n of some bytes.
func words(some string, n int) []string {
	all := []string{""}
	last := all
	for range n {
		var longer []string
		for _, s := range last {
			for i := range some {
				longer = append(longer, s+some[i:i+1])
			}
		}
		all, last = append(all, longer...), longer
	}
	return all
}

// keys are those that are tried, at most 64: longer ones than the ends of spans among them.
func keys() []string {
	return words("\x00a\xff", 3)
}

// set tells which of keys are in a span, a bit for each.
func set(w api.Want, keys []string) uint64 {
	var s uint64
	for i, k := range keys {
		if toldIn(w, k) {
			s |= 1 << i
		}
	}
	return s
}

// setSpan is a span with its keys.
type setSpan struct {
	api.Want
	set uint64
}

// spans are all of some ends and modes: such that may be and such that may not.
func spans(ends []string, modes ...int) []setSpan {
	var all []setSpan
	tried := keys()
	for _, lo := range ends {
		for _, hi := range ends {
			s := set(from(0, lo, hi), tried)
			for _, m := range modes {
				all = append(all, setSpan{from(m, lo, hi), s})
			}
		}
	}
	return all
}

// toldMay is May, as its words tell it.
func toldMay(w api.Want) bool {
	if w.Mode != 1 && w.Mode != 2 {
		return false
	}
	return w.Hi == "" || toldBelow(w.Lo, w.Hi)
}

// toldCovers is Covers, as its words tell it.
func toldCovers(a, b setSpan) bool {
	return toldMay(b.Want) && b.set&^a.set == 0 && (a.Mode == 2 || b.Mode != 2)
}

// someModes are the two, such that are beside them, and the greatest and the least.
func someModes() []int {
	return []int{1, 2, 0, 3, -1, -2, 4, 257, 1<<32 + 1, 1<<32 + 2, math.MaxInt, math.MinInt}
}

// someKeys are keys of all lengths, of any bytes.
func someKeys() []string {
	return append(keys(), "key", "z", "\x7f", "\x80", "ä", "\xef\xbf\xbd", strings.Repeat("k", 32), strings.Repeat("k", 33), strings.Repeat("\xff", 32), strings.Repeat("\x00", 32), strings.Repeat("\xff", 70000))
}

// TestP9_1Key: a span's mode, whatever it is, its key, and the key behind it, which ends it.
func TestP9_1Key(t *testing.T) {
	for _, m := range someModes() {
		for _, k := range someKeys() {
			if got := Key(m, k); got.Mode != m || got.Lo != k || got.Hi != k+"\x00" {
				t.Errorf("Key(%d, %.40q): %s", m, k, show(got))
			}
		}
	}
}

// TestP9_1KeyAlone: in the span of a key is that key, and no other one.
func TestP9_1KeyAlone(t *testing.T) {
	for _, k := range someKeys() {
		for _, other := range someKeys() {
			if In(Key(1, k), other) != (k == other) {
				t.Errorf("the span of %.40q, and %.40q", k, other)
			}
		}
	}
}

// TestP9_1May: each mode, the two that may be and others; ends that are above, at, below the beginning, and none.
func TestP9_1May(t *testing.T) {
	for _, x := range []struct {
		lo, hi string
		may    bool
	}{
		{"", "", true},
		{"a", "", true},
		{"\xff\xff", "", true},
		{"", "a", true},
		{"", "\x00", true},
		{"a", "b", true},
		{"a", "a\x00", true},
		{"a", "aa", true},
		{"a", "a", false},
		{"b", "a", false},
		{"aa", "a", false},
		{"a\x00", "a", false},
		{"\x00", "\x00", false},
		{"10", "9", true},
		{"9", "10", false},
		{"Z", "a", true},
		{"a", "Z", false},
		{"z", "\x80", true},
		{"\x80", "z", false},
		{"a", "\xff", true},
		{"\xff", "ä", false},
		{strings.Repeat("k", 40), strings.Repeat("k", 41), true},
		{strings.Repeat("k", 41), strings.Repeat("k", 40), false},
	} {
		for _, m := range someModes() {
			if got, want := May(from(m, x.lo, x.hi)), x.may && (m == 1 || m == 2); got != want {
				t.Errorf("May%s: %t", show(from(m, x.lo, x.hi)), got)
			}
		}
	}
}

// TestP9_1MayKey: the span of a key may be, if its mode is one of the two.
func TestP9_1MayKey(t *testing.T) {
	for _, m := range someModes() {
		for _, k := range someKeys() {
			if May(Key(m, k)) != (m == 1 || m == 2) {
				t.Errorf("May of Key(%d, %.40q)", m, k)
			}
		}
	}
}

// TestP9_1In: a key at, below and above both ends; ends that are empty, fall, or are the same; whatever the mode is.
func TestP9_1In(t *testing.T) {
	for _, x := range []struct {
		lo, hi, key string
		in          bool
	}{
		{"a", "c", "b", true},
		{"a", "c", "a", true},
		{"a", "c", "a\x00", true},
		{"a", "c", "bzz", true},
		{"a", "c", "c", false},
		{"a", "c", "c\x00", false},
		{"a", "c", "A", false},
		{"a", "c", "", false},
		{"a", "c", "d", false},
		{"a", "", "a", true},
		{"a", "", "\xff\xff\xff", true},
		{"a", "", "", false},
		{"a", "", "A", false},
		{"", "", "", true},
		{"", "", "\xff", true},
		{"", "a", "", true},
		{"", "a", "a", false},
		{"aa", "", "a", false},
		{"a", "a", "a", false},
		{"c", "a", "a", false},
		{"c", "a", "b", false},
		{"c", "a", "c", false},
		{"c", "a", "d", false},
		{"10", "9", "2", true},
		{"9", "10", "95", false},
		{"a", "\xff", "\x80", true},
		{"a", "z", "\x80", false},
		{"\x80", "\xff", "z", false},
	} {
		for _, m := range someModes() {
			if got := In(from(m, x.lo, x.hi), x.key); got != x.in {
				t.Errorf("In(%s, %q): %t", show(from(m, x.lo, x.hi)), x.key, got)
			}
		}
	}
}

// TestP9_1Told: all spans of short ends, each short key, against the words.
func TestP9_1Told(t *testing.T) {
	for _, x := range spans(words("\x00a\xff", 2), 0, 1, 2, 3) {
		if got := May(x.Want); got != toldMay(x.Want) {
			t.Errorf("May%s: %t", show(x.Want), got)
		}
		for i, k := range keys() {
			if got := In(x.Want, k); got != (x.set>>i&1 == 1) {
				t.Errorf("In(%s, %q): %t", show(x.Want), k, got)
			}
		}
	}
}

// pairs are spans, and whether they overlap.
func pairs() []struct {
	a, b    api.Want
	overlap bool
} {
	long := strings.Repeat("k", 32)
	return []struct {
		a, b    api.Want
		overlap bool
	}{
		{from(0, "a", "c"), from(0, "a", "c"), true},
		{from(0, "a", "c"), from(0, "b", "d"), true},
		{from(0, "a", "c"), from(0, "b", "b\x00"), true},
		{from(0, "a", "c"), from(0, "bb", "bc"), true},
		{from(0, "a", "c"), from(0, "", "a"), false},
		{from(0, "a", "c"), from(0, "", "a\x00"), true},
		{from(0, "a", "c"), from(0, "c", "d"), false},
		{from(0, "a", "c"), from(0, "bzzz", "d"), true},
		{from(0, "a", "c"), from(0, "d", "e"), false},
		{from(0, "a", "c"), from(0, "c", ""), false},
		{from(0, "a", "c"), from(0, "b", ""), true},
		{from(0, "a", "c"), from(0, "", ""), true},
		{from(0, "a", ""), from(0, "", "a"), false},
		{from(0, "a", ""), from(0, "", "b"), true},
		{from(0, "a", ""), from(0, "z", ""), true},
		{from(0, "", ""), from(0, "", ""), true},
		{from(0, "", ""), from(0, "\xff\xff", ""), true},
		{from(0, "", "\x00"), from(0, "", "a"), true},
		{from(0, "", "\x00"), from(0, "\x00", ""), false},
		{from(0, "z", "\x80"), from(0, "\x80", "\xff"), false},
		{from(0, "a", "\xff"), from(0, "\x80", ""), true},
		{from(0, long, long+"\x00"), from(0, long, ""), true},
		{from(0, long, long+"\x00"), from(0, long+"\x00", ""), false},
		{from(0, long+"\x00", long+"\x01"), from(0, long, long+"b"), true},
		// Spans without keys.
		{from(0, "b", "b"), from(0, "a", "c"), false},
		{from(0, "b", "b"), from(0, "b", "b"), false},
		{from(0, "b", "b"), from(0, "", ""), false},
		{from(0, "c", "a"), from(0, "b", "d"), false},
		{from(0, "c", "a"), from(0, "", ""), false},
		{from(0, "c", "a"), from(0, "c", ""), false},
		{from(0, "c", "a"), from(0, "a", "c"), false},
		{from(0, "c", "a"), from(0, "c", "a"), false},
		{from(0, "d", "b"), from(0, "c", "a"), false},
	}
}

// TestP9_2Overlap: spans that touch, that have a key of both, one in the other, with and without an end, without a key; in both orders, whatever their modes are.
func TestP9_2Overlap(t *testing.T) {
	for _, x := range pairs() {
		for _, m := range someModes() {
			for _, n := range someModes() {
				x.a.Mode, x.b.Mode = m, n
				if got, back := Overlap(x.a, x.b), Overlap(x.b, x.a); got != x.overlap || back != x.overlap {
					t.Errorf("Overlap(%s, %s): %t, %t", show(x.a), show(x.b), got, back)
				}
			}
		}
	}
}

// TestP9_2Clash: each two modes: those that overlap clash, if one of them is ModeX, or both are; a mode that is none of the two isn't ModeX.
func TestP9_2Clash(t *testing.T) {
	for _, x := range pairs() {
		for _, m := range someModes() {
			for _, n := range someModes() {
				x.a.Mode, x.b.Mode = m, n
				want := x.overlap && (m == 2 || n == 2)
				if got, back := Clash(x.a, x.b), Clash(x.b, x.a); got != want || back != want {
					t.Errorf("Clash(%s, %s): %t, %t", show(x.a), show(x.b), got, back)
				}
			}
		}
	}
}

// TestP9_2Covers: spans that have the other's keys, at both ends just so, and such that lack one; a span without keys covers nothing, and isn't covered.
func TestP9_2Covers(t *testing.T) {
	for _, x := range []struct {
		alo, ahi, blo, bhi string
		covers             bool
	}{
		{"a", "c", "a", "c", true},
		{"a", "c", "b", "c", true},
		{"a", "c", "a", "b", true},
		{"a", "c", "b", "b\x00", true},
		{"a", "c", "bz", "c", true},
		{"a", "c", "", "c", false},
		{"a", "c", "A", "b", false},
		{"a", "c", "a", "c\x00", false},
		{"a", "c", "b", "d", false},
		{"a", "c", "a", "", false},
		{"a", "c", "b", "", false},
		{"a", "c", "c", "d", false},
		{"a", "c", "d", "", false},
		{"a", "c", "", "", false},
		{"a", "", "a", "", true},
		{"a", "", "b", "", true},
		{"a", "", "b", "c", true},
		{"a", "", "", "", false},
		{"a", "", "", "b", false},
		{"a", "", "", "a", false},
		{"a\x00", "", "a", "", false},
		{"", "", "", "", true},
		{"", "", "\xff\xff", "", true},
		{"", "", "", "\x00", true},
		{"", "b", "", "b", true},
		{"", "b", "a", "b", true},
		{"", "b", "a", "", false},
		{"a", "\xff", "z", "\x80", true},
		{"a", "z", "b", "\x80", false},
		// Spans without keys.
		{"a", "c", "b", "b", false},
		{"a", "c", "b", "a", false},
		{"", "", "b", "a", false},
		{"b", "b", "b", "b", false},
		{"b", "b", "b", "c", false},
		{"b", "b", "b", "b\x00", false},
		{"c", "a", "b", "b\x00", false},
		{"c", "a", "c", "a", false},
		{"c", "a", "c", "d", false},
		{"c", "a", "d", "", false},
	} {
		for _, m := range someModes() {
			for _, n := range someModes() {
				a, b := from(m, x.alo, x.ahi), from(n, x.blo, x.bhi)
				if got := Covers(a, b); got != (x.covers && (n == 1 || n == 2 && m == 2)) {
					t.Errorf("Covers(%s, %s): %t", show(a), show(b), got)
				}
			}
		}
	}
}

// TestP9_2Told: each two spans of short ends, against the words: which keys are in both, and whether one of those of b isn't in a.
func TestP9_2Told(t *testing.T) {
	all := spans(words("\x00a\xff", 2), 0, 1, 2, 3)
	for _, a := range all {
		for _, b := range all {
			both := a.set&b.set != 0
			if got := Overlap(a.Want, b.Want); got != both {
				t.Fatalf("Overlap(%s, %s): %t", show(a.Want), show(b.Want), got)
			}
			if got := Clash(a.Want, b.Want); got != (both && (a.Mode == 2 || b.Mode == 2)) {
				t.Fatalf("Clash(%s, %s): %t", show(a.Want), show(b.Want), got)
			}
			if got := Covers(a.Want, b.Want); got != toldCovers(a, b) {
				t.Fatalf("Covers(%s, %s): %t", show(a.Want), show(b.Want), got)
			}
		}
	}
}

// TestP9_3Keys: the spans of two keys overlap just if the keys are the same, clash just if one is written, too, and cover each other likewise.
func TestP9_3Keys(t *testing.T) {
	all := someKeys()
	for _, m := range []int{1, 2} {
		for _, n := range []int{1, 2} {
			for _, k := range all {
				for _, l := range all {
					a, b, same := Key(m, k), Key(n, l), k == l
					if Overlap(a, b) != same || Clash(a, b) != (same && m+n > 2) || Covers(a, b) != (same && m >= n) {
						t.Errorf("Key(%d, %.40q) and Key(%d, %.40q): %t, %t, %t", m, k, n, l, Overlap(a, b), Clash(a, b), Covers(a, b))
					}
				}
			}
		}
	}
}

// TestP9_3Order: Overlap and Clash don't hang on the order.
func TestP9_3Order(t *testing.T) {
	all := spans(words("\x00a\xff", 2), 1, 2, 3)
	for _, a := range all {
		for _, b := range all {
			if Overlap(a.Want, b.Want) != Overlap(b.Want, a.Want) || Clash(a.Want, b.Want) != Clash(b.Want, a.Want) {
				t.Fatalf("%s and %s", show(a.Want), show(b.Want))
			}
		}
	}
}

// TestP9_3Covers: what covers a span clashes with all with which that clashes, has all its keys, and covers all that it covers.
func TestP9_3Covers(t *testing.T) {
	all := spans([]string{"", "\x00", "a", "a\x00", "aa", "b", "\xff"}, 0, 1, 2, 3)
	covered := 0
	for _, a := range all {
		for _, b := range all {
			if !Covers(a.Want, b.Want) {
				continue
			}
			covered++
			for _, c := range all {
				if Clash(b.Want, c.Want) && !Clash(a.Want, c.Want) || Overlap(b.Want, c.Want) && !Overlap(a.Want, c.Want) || Covers(b.Want, c.Want) && !Covers(a.Want, c.Want) {
					t.Fatalf("%s covers %s, but falls short of it with %s", show(a.Want), show(b.Want), show(c.Want))
				}
			}
			for _, k := range keys() {
				if In(b.Want, k) && !In(a.Want, k) {
					t.Fatalf("%s covers %s, but not %q", show(a.Want), show(b.Want), k)
				}
			}
		}
	}
	if covered == 0 {
		t.Error("no span covers one")
	}
}

// TestP9_3Self: a span that may be overlaps and covers itself, and clashes with itself, if it is ModeX; one that may not be doesn't cover itself, though it is the same.
func TestP9_3Self(t *testing.T) {
	for _, x := range spans(words("\x00a\xff", 2), 0, 1, 2, 3) {
		a, may := x.Want, toldMay(x.Want)
		if Covers(a, a) != may || may && !Overlap(a, a) || Clash(a, a) != (may && a.Mode == 2) {
			t.Errorf("%s: %t, %t, %t", show(a), Covers(a, a), Overlap(a, a), Clash(a, a))
		}
	}
}

// TestExample: the chapter's.
func TestExample(t *testing.T) {
	if !Clash(Key(api.ModeX, "a"), from(api.ModeS, "a", "b")) {
		t.Error("a key that is written, a span that is read")
	}
	if a := Key(api.ModeS, "a"); !Overlap(a, a) || Clash(a, a) {
		t.Error("a key that is read twice")
	}
}
