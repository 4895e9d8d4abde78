package view

import (
	"math"
	"slices"
	"strings"
	"testing"

	"stanchion/api"
)

// TestP12_1Set: in the place of a write, ahead of the first greater one, behind all; what puts in the place of what drops, and the other way; the whole write, whatever it is.
func TestP12_1Set(t *testing.T) {
	long := strings.Repeat("k", 70000)
	for _, x := range []struct {
		w     []api.Write
		x     api.Write
		after []api.Write
	}{
		{nil, put("a", "1"), writes(put("a", "1"))},
		{writes(), put("a", "1"), writes(put("a", "1"))},
		{nil, del("a"), writes(del("a"))},
		{nil, api.Write{}, writes(api.Write{})},
		{nil, delVal("a", "1"), writes(delVal("a", "1"))},
		// In the place of a write.
		{writes(put("a", "1")), put("a", "2"), writes(put("a", "2"))},
		{writes(put("a", "1")), put("a", "1"), writes(put("a", "1"))},
		{writes(put("a", "1")), put("a", ""), writes(put("a", ""))},
		{writes(put("a", "1")), del("a"), writes(del("a"))},
		{writes(put("a", "1")), delVal("a", "1"), writes(delVal("a", "1"))},
		{writes(del("a")), put("a", "1"), writes(put("a", "1"))},
		{writes(del("a")), put("a", ""), writes(put("a", ""))},
		{writes(delVal("a", "1")), del("a"), writes(del("a"))},
		{writes(put("a", "1"), put("b", "2"), put("c", "3")), put("a", "x"), writes(put("a", "x"), put("b", "2"), put("c", "3"))},
		{writes(put("a", "1"), put("b", "2"), put("c", "3")), put("b", "x"), writes(put("a", "1"), put("b", "x"), put("c", "3"))},
		{writes(put("a", "1"), put("b", "2"), put("c", "3")), del("c"), writes(put("a", "1"), put("b", "2"), del("c"))},
		{writes(put("", "1"), put("b", "2")), put("", "x"), writes(put("", "x"), put("b", "2"))},
		// Ahead of the first greater one, or behind all.
		{writes(put("b", "2")), put("a", "1"), writes(put("a", "1"), put("b", "2"))},
		{writes(put("a", "1")), put("b", "2"), writes(put("a", "1"), put("b", "2"))},
		{writes(del("a"), put("c", "3")), del("b"), writes(del("a"), del("b"), put("c", "3"))},
		{writes(put("a", "1"), put("c", "3")), put("", "x"), writes(put("", "x"), put("a", "1"), put("c", "3"))},
		{writes(put("a", "1"), put("b", "3")), put("aa", "x"), writes(put("a", "1"), put("aa", "x"), put("b", "3"))},
		{writes(put("a", "1"), put("aa", "3")), put("a\x00", "x"), writes(put("a", "1"), put("a\x00", "x"), put("aa", "3"))},
		{writes(put("9", "1")), put("10", "x"), writes(put("10", "x"), put("9", "1"))},
		{writes(put("a", "1")), put("Z", "x"), writes(put("Z", "x"), put("a", "1"))},
		{writes(put("z", "1"), put("\xff", "2")), put("\x80", "x"), writes(put("z", "1"), put("\x80", "x"), put("\xff", "2"))},
		{writes(put("ä", "1")), put("z", "x"), writes(put("z", "x"), put("ä", "1"))},
		{writes(put(long, "1")), put(long+"k", "x"), writes(put(long, "1"), put(long+"k", "x"))},
		{writes(put(long+"k", "1")), put(long, long), writes(put(long, long), put(long+"k", "1"))},
		// Rows that don't rise.
		{writes(put("a", "1"), put("a", "2")), put("a", "x"), writes(put("a", "x"), put("a", "2"))},
		{writes(del("a"), put("a", "2"), put("b", "3")), put("a", "x"), writes(put("a", "x"), put("a", "2"), put("b", "3"))},
		{writes(put("a", "1"), put("a", "2")), put("b", "x"), writes(put("a", "1"), put("a", "2"), put("b", "x"))},
		{writes(put("b", "1"), put("a", "2")), put("a", "x"), writes(put("b", "1"), put("a", "x"))},
		{writes(put("b", "1"), put("a", "2")), put("b", "x"), writes(put("b", "x"), put("a", "2"))},
		{writes(put("c", "1"), put("a", "2")), put("b", "x"), writes(put("b", "x"), put("c", "1"), put("a", "2"))},
		{writes(put("a", "1"), put("d", "2"), put("c", "3"), put("e", "4")), put("b", "x"), writes(put("a", "1"), put("b", "x"), put("d", "2"), put("c", "3"), put("e", "4"))},
		{writes(put("a", "1"), put("d", "2"), put("c", "3"), put("b", "4")), put("b", "x"), writes(put("a", "1"), put("d", "2"), put("c", "3"), put("b", "x"))},
		{writes(put("c", "1"), put("b", "2"), put("a", "3")), put("d", "x"), writes(put("c", "1"), put("b", "2"), put("a", "3"), put("d", "x"))},
	} {
		wantSet(t, x.w, x.x, x.after)
	}
}

// TestP12_1SetMany: more writes than a batch may have, set in any order, stand in the order of their keys.
func TestP12_1SetMany(t *testing.T) {
	all := keyed(rising()...)
	for _, step := range []int{1, 2, 5, 26} {
		var w []api.Write
		for i := range all {
			w = Set(w, all[(i*step+3)%len(all)])
		}
		if !slices.Equal(w, all) {
			t.Errorf("by %d: %.40v", step, w)
		}
		for i, x := range all {
			wantSet(t, slices.Concat(all[:i], all[i+1:]), x, all)
			wantSet(t, all, put(x.Key, "x"), slices.Concat(all[:i], writes(put(x.Key, "x")), all[i+1:]))
		}
	}
}

// TestP12_1Rises: rows that rise and such that don't, the fault at any place; what is put or dropped doesn't count.
func TestP12_1Rises(t *testing.T) {
	for _, x := range []struct {
		w     []api.Write
		rises bool
	}{
		{nil, true},
		{writes(), true},
		{writes(api.Write{}), true},
		{writes(del("a")), true},
		{writes(put("a", "2"), put("b", "1")), true},
		{writes(put("b", "1"), put("a", "2")), false},
		{writes(put("a", "1"), put("a", "1")), false},
		{writes(put("a", "1"), put("a", "2")), false},
		{writes(put("a", "1"), del("a")), false},
		{writes(del("a"), put("a", "1")), false},
		{writes(put("", "1"), put("", "2")), false},
		{keyed("", "a"), true},
		{keyed("a", ""), false},
		{keyed("a", "aa", "ab"), true},
		{keyed("a", "ab", "aa"), false},
		{keyed("aa", "a", "b"), false},
		{keyed("a", "b", "a"), false},
		{keyed("a", "b", "b"), false},
		{keyed("b", "b", "c"), false},
		{keyed("b", "c", "a"), false},
		{keyed("a", "c", "b", "d"), false},
		{keyed("Z", "a"), true},
		{keyed("10", "9"), true},
		{keyed("9", "10"), false},
		{keyed("z", "\x7f", "\x80", "\xff"), true},
		{keyed("\x80", "z"), false},
		{keyed("\xff", "ä"), false},
		{keyed(rising()...), true},
	} {
		if got := Rises(x.w); got != x.rises {
			t.Errorf("%.40v: %t", x.w, got)
		}
	}
	for i := 1; i < len(rising()); i++ {
		w := keyed(rising()...)
		w[i].Key = w[i-1].Key
		if Rises(w) {
			t.Errorf("the key %d is the one ahead", i)
		}
		w = keyed(rising()...)
		w[i-1].Key, w[i].Key = w[i].Key, w[i-1].Key
		if Rises(w) {
			t.Errorf("the key %d is below the one ahead", i)
		}
	}
}

// TestP12_1Size: bytes of keys and of values, of all writes, whatever they do and how often a key is there.
func TestP12_1Size(t *testing.T) {
	for _, x := range []struct {
		w    []api.Write
		size int
	}{
		{nil, 0},
		{writes(), 0},
		{writes(api.Write{}), 0},
		{writes(del("")), 0},
		{writes(put("a", "")), 1},
		{writes(put("", "a")), 1},
		{writes(put("ab", "cde")), 5},
		{writes(del("ab")), 2},
		{writes(delVal("ab", "cde")), 5},
		{writes(put("a", "1"), put("b", "22"), del("ccc")), 8},
		{writes(put("a", "1"), put("a", "1")), 4},
		{writes(put("b", "1"), put("a", "22")), 5},
		{writes(put("ä", "€")), 5},
		{writes(put("\x00", "\xff\x00")), 3},
		{writes(put("\x80", " ")), 2},
		{writes(put(strings.Repeat("k", 32), strings.Repeat("v", 64)), put(strings.Repeat("l", 32), strings.Repeat("v", 64))), 192},
		{writes(put(strings.Repeat("k", 256), strings.Repeat("v", 256))), 512},
		{writes(put(strings.Repeat("k", 256), strings.Repeat("v", 257))), 513},
		{writes(put(strings.Repeat("k", 70000), strings.Repeat("v", 1<<17))), 70000 + 1<<17},
	} {
		if got := Size(x.w); got != x.size {
			t.Errorf("%.40v: %d; want %d", x.w, got, x.size)
		}
	}
	if n := Size(slices.Repeat(writes(put("key", "value"), del("k")), 1000)); n != 9000 {
		t.Errorf("of 2000 writes: %d", n)
	}
}

// TestP12_2Get: the first write of the key, whatever it is, stands ahead of the base; without one the base's first pair.
func TestP12_2Get(t *testing.T) {
	base := row("a", "1", "c", "3", "d", "")
	for _, x := range []struct {
		w    []api.Write
		base []api.Pair
		key  string
		val  string
		is   bool
	}{
		{nil, nil, "a", "", false},
		{nil, nil, "", "", false},
		{nil, base, "a", "1", true},
		{nil, base, "b", "", false},
		{nil, base, "c", "3", true},
		{nil, base, "d", "", true},
		{nil, base, "", "", false},
		{nil, base, "A", "", false},
		{nil, base, "a\x00", "", false},
		{writes(put("a", "2")), nil, "a", "2", true},
		{writes(put("a", "2")), nil, "b", "", false},
		{writes(put("a", "2")), base, "a", "2", true},
		{writes(put("a", "2")), base, "c", "3", true},
		{writes(put("a", "2")), base, "b", "", false},
		{writes(put("a", "")), base, "a", "", true},
		{writes(put("b", "2")), base, "b", "2", true},
		{writes(put("b", "2")), base, "a", "1", true},
		{writes(put("b", "2")), base, "c", "3", true},
		{writes(del("a")), base, "a", "", false},
		{writes(del("a")), base, "c", "3", true},
		{writes(del("b")), base, "b", "", false},
		{writes(del("a")), nil, "a", "", false},
		{writes(delVal("a", "2")), base, "a", "", false},
		{writes(delVal("b", "2")), base, "b", "", false},
		{writes(put("", "2")), base, "", "2", true},
		{writes(del("")), row("", "1"), "", "", false},
		{writes(put("aa", "2")), base, "a", "1", true},
		{writes(put("a", "2"), del("c"), put("e", "5")), base, "a", "2", true},
		{writes(put("a", "2"), del("c"), put("e", "5")), base, "c", "", false},
		{writes(put("a", "2"), del("c"), put("e", "5")), base, "d", "", true},
		{writes(put("a", "2"), del("c"), put("e", "5")), base, "e", "5", true},
		{writes(put("a", "2"), del("c"), put("e", "5")), base, "f", "", false},
		// Rows that aren't right: the first one counts.
		{writes(put("a", "2"), put("a", "3")), base, "a", "2", true},
		{writes(put("a", "2"), del("a")), base, "a", "2", true},
		{writes(del("a"), put("a", "3")), base, "a", "", false},
		{writes(put("b", "2"), put("a", "9")), base, "a", "9", true},
		{writes(put("c", "2"), put("b", "8"), del("a")), base, "a", "", false},
		{writes(put("c", "2"), put("b", "8"), put("e", "7")), base, "d", "", true},
		{nil, row("a", "1", "a", "2"), "a", "1", true},
		{nil, row("b", "1", "a", "2"), "a", "2", true},
		{writes(del("b")), row("c", "1", "a", "2", "b", "3"), "a", "2", true},
	} {
		wantGet(t, x.w, x.base, x.key, x.val, x.is)
	}
}

// TestP12_2Scan: what the writes make of the base, from lo on, below hi: what was put is there, what was dropped isn't, and most is counted behind that.
func TestP12_2Scan(t *testing.T) {
	base := row("a", "1", "c", "3", "e", "5")
	w := writes(put("b", "2"), del("c"), put("e", "6"))
	for _, x := range []struct {
		w    []api.Write
		base []api.Pair
		reach
		rows []api.Pair
	}{
		{nil, nil, reach{"", "", 9}, nil},
		{nil, base, reach{"", "", 9}, base},
		{nil, base, reach{"", "", 0}, nil},
		{nil, base, reach{"a", "c", 9}, row("a", "1")},
		{w, nil, reach{"", "", 9}, row("b", "2", "e", "6")},
		{w, base, reach{"", "", 9}, row("a", "1", "b", "2", "e", "6")},
		{w, base, reach{"", "", math.MaxInt}, row("a", "1", "b", "2", "e", "6")},
		{w, base, reach{"", "", 3}, row("a", "1", "b", "2", "e", "6")},
		{w, base, reach{"", "", 2}, row("a", "1", "b", "2")},
		{w, base, reach{"", "", 1}, row("a", "1")},
		{w, base, reach{"", "", 0}, nil},
		{w, base, reach{"", "", -1}, nil},
		{w, base, reach{"", "", math.MinInt}, nil},
		{w, base, reach{"b", "", 9}, row("b", "2", "e", "6")},
		{w, base, reach{"c", "", 1}, row("e", "6")},
		{w, base, reach{"b\x00", "e", 9}, nil},
		{w, base, reach{"b\x00", "e\x00", 9}, row("e", "6")},
		{w, base, reach{"", "b", 9}, row("a", "1")},
		{w, base, reach{"", "b\x00", 9}, row("a", "1", "b", "2")},
		{w, base, reach{"b", "b", 9}, nil},
		{w, base, reach{"e", "a", 9}, nil},
		{w, base, reach{"f", "", 9}, nil},
		{writes(del("a")), base, reach{"", "", 1}, row("c", "3")},
		{writes(del("a"), del("c"), del("e")), base, reach{"", "", 9}, nil},
		{writes(del("b")), base, reach{"", "", 9}, base},
		{writes(delVal("a", "9")), base, reach{"", "", 9}, row("c", "3", "e", "5")},
		{writes(delVal("b", "9")), base, reach{"", "", 9}, base},
		{writes(put("a", "")), base, reach{"", "b", 9}, row("a", "")},
		{writes(put("", "x"), put("\xff", "y")), base, reach{"", "", 9}, row("", "x", "a", "1", "c", "3", "e", "5", "\xff", "y")},
		{writes(put("\x80", "x")), row("z", "1"), reach{"a", "", 9}, row("z", "1", "\x80", "x")},
		// Rows that aren't right: writes in their order, the last one counts.
		{writes(put("a", "8"), put("a", "9")), base, reach{"", "b", 9}, row("a", "9")},
		{writes(put("a", "8"), del("a")), base, reach{"", "b", 9}, nil},
		{writes(del("a"), put("a", "9")), base, reach{"", "b", 9}, row("a", "9")},
		{writes(put("d", "4"), put("b", "2")), base, reach{"", "", 9}, row("a", "1", "b", "2", "c", "3", "d", "4", "e", "5")},
		{writes(put("a", "9")), row("a", "1", "a", "2"), reach{"", "", 9}, row("a", "9", "a", "2")},
		{writes(del("a")), row("a", "1", "b", "3", "a", "2"), reach{"", "", 9}, row("b", "3")},
		{writes(put("b", "9")), row("c", "1", "a", "2"), reach{"", "", 9}, row("b", "9", "c", "1", "a", "2")},
		{nil, row("c", "1", "a", "2", "b", "3"), reach{"a", "c", 9}, row("a", "2", "b", "3")},
	} {
		wantScan(t, x.w, x.base, x.reach, x.rows)
	}
}

// TestR3: what comes of one row of writes, one behind the other, stands apart.
func TestR3(t *testing.T) {
	w := Set(Set(Set(nil, put("a", "1")), put("c", "3")), put("e", "5"))
	rows := []struct{ got, want []api.Write }{
		{Set(w, put("b", "x")), writes(put("a", "1"), put("b", "x"), put("c", "3"), put("e", "5"))},
		{Set(w, put("b", "y")), writes(put("a", "1"), put("b", "y"), put("c", "3"), put("e", "5"))},
		{Set(w, put("f", "x")), writes(put("a", "1"), put("c", "3"), put("e", "5"), put("f", "x"))},
		{Set(w, put("f", "y")), writes(put("a", "1"), put("c", "3"), put("e", "5"), put("f", "y"))},
		{Set(w, del("c")), writes(put("a", "1"), del("c"), put("e", "5"))},
		{Set(w[:1], put("d", "x")), writes(put("a", "1"), put("d", "x"))},
		{Set(w[:2], put("c", "x")), writes(put("a", "1"), put("c", "x"))},
		{Set(w[1:], put("c", "y")), writes(put("c", "y"), put("e", "5"))},
		{w, writes(put("a", "1"), put("c", "3"), put("e", "5"))},
	}
	for _, x := range rows {
		if !slices.Equal(x.got, x.want) {
			t.Errorf("%v; want %v", x.got, x.want)
		}
	}
}

// TestExample: the chapter's.
func TestExample(t *testing.T) {
	base := row("a", "1")
	w := Set(nil, del("a"))
	wantGet(t, w, base, "a", "", false)
	w = Set(w, put("b", "2"))
	wantScan(t, w, base, reach{"", "", 9}, row("b", "2"))
}
