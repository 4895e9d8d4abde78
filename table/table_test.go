package table

import (
	"bytes"
	"fmt"
	"math"
	"math/rand"
	"slices"
	"strings"
	"testing"

	"stanchion/api"
)

// row is one of keys and values in turn.
func row(t ...string) []api.Pair {
	var l []api.Pair
	for i := 0; i+1 < len(t); i += 2 {
		l = append(l, api.Pair{Key: t[i], Val: t[i+1]})
	}
	return l
}

// keyed is a row of these keys, the values 0, 1 and so on.
func keyed(keys ...string) []api.Pair {
	var l []api.Pair
	for i, k := range keys {
		l = append(l, api.Pair{Key: k, Val: fmt.Sprint(i)})
	}
	return l
}

// put is a write that puts.
func put(key, val string) api.Write {
	return api.Write{Key: key, Val: val}
}

// del is a write that drops.
func del(key string) api.Write {
	return api.Write{Key: key, Del: true}
}

// The kinds of steps.
const (
	toPut = iota
	toDrop
	toRange
	toApply
	kinds
)

// step is a call that makes another row of one, and its arguments.
type step struct {
	kind     int
	key, val string
	lo, hi   string
	most     int
	w        []api.Write
}

func (x step) String() string {
	switch x.kind {
	case toPut:
		return fmt.Sprintf("Put(%.30q, %q)", x.key, x.val)
	case toDrop:
		return fmt.Sprintf("Drop(%.30q)", x.key)
	case toRange:
		return fmt.Sprintf("Range(%.30q, %.30q, %d)", x.lo, x.hi, x.most)
	}
	return fmt.Sprintf("Apply(%.30v)", x.w)
}

// do does a step.
func do(l []api.Pair, x step) []api.Pair {
	switch x.kind {
	case toPut:
		return Put(l, x.key, x.val)
	case toDrop:
		return Drop(l, x.key)
	case toRange:
		return Range(l, x.lo, x.hi, x.most)
	}
	return Apply(l, x.w)
}

// below: is a key below another one, by their bytes?
func below(a, b string) bool {
	return bytes.Compare([]byte(a), []byte(b)) < 0
}

// toldRight is Right, as its words tell it: of any two pairs the one ahead has the key that is below.
func toldRight(l []api.Pair) bool {
	for i := range l {
		for j := range i {
			if !below(l[j].Key, l[i].Key) {
				return false
			}
		}
	}
	return true
}

// toldBetween is Between, as its words tell it.
func toldBetween(key, lo, hi string) bool {
	if key != lo && !below(lo, key) {
		return false
	}
	return hi == "" || below(key, hi)
}

// toldFind is Find, as its words tell it.
func toldFind(l []api.Pair, key string) (string, bool) {
	for _, p := range l {
		if p.Key == key {
			return p.Val, true
		}
	}
	return "", false
}

// told is a step's answer, word by word as P5.2 tells it.
func told(l []api.Pair, x step) []api.Pair {
	switch x.kind {
	case toPut:
		return toldPut(l, x.key, x.val)
	case toDrop:
		return toldDrop(l, x.key)
	case toRange:
		return toldRange(l, x.lo, x.hi, x.most)
	}
	for _, w := range x.w {
		if w.Del {
			l = toldDrop(l, w.Key)
		} else {
			l = toldPut(l, w.Key, w.Val)
		}
	}
	return l
}

func toldPut(l []api.Pair, key, val string) []api.Pair {
	p := row(key, val)
	for i := range l {
		if l[i].Key == key {
			return slices.Concat(l[:i], p, l[i+1:])
		}
	}
	for i := range l {
		if below(key, l[i].Key) {
			return slices.Concat(l[:i], p, l[i:])
		}
	}
	return slices.Concat(l, p)
}

func toldDrop(l []api.Pair, key string) []api.Pair {
	var left []api.Pair
	for _, p := range l {
		if p.Key != key {
			left = append(left, p)
		}
	}
	return left
}

func toldRange(l []api.Pair, lo, hi string, most int) []api.Pair {
	var all []api.Pair
	for _, p := range l {
		if toldBetween(p.Key, lo, hi) {
			all = append(all, p)
		}
	}
	return all[:min(len(all), max(most, 0))]
}

// roomy is a list with spare room behind it, which is full of a thing.
func roomy[T any](l []T, spare T) []T {
	return append(append(make([]T, 0, len(l)+4), l...), spare, spare, spare, spare)[:len(l)]
}

// wantUntouched: a roomy list is as it was, its spare room too.
func wantUntouched[T comparable](t *testing.T, now, before []T, spare T, what string) {
	t.Helper()
	if !slices.Equal(now, before) {
		t.Errorf("%s: %.30v was handed in, and is %.30v now", what, before, now)
	}
	for _, v := range now[len(now) : len(now)+4] {
		if v != spare {
			t.Errorf("%s: the spare room behind %.30v was written into", what, before)
		}
	}
}

// later are steps that write all over a row, were it not the callee's own.
func later(l []api.Pair) []step {
	all := []step{{kind: toPut, key: "", val: "later"}, {kind: toPut, key: "\xff\xff", val: "later"}, {kind: toRange, most: len(l)}}
	w := []api.Write{put("m", "later")}
	for _, p := range l {
		all = append(all, step{kind: toPut, key: p.Key, val: "later"}, step{kind: toDrop, key: p.Key})
		w = append(w, put(p.Key+"!", "later"), del(p.Key))
	}
	return append(all, step{kind: toApply, w: w})
}

// want: a step's answer; that nothing that is handed in is written into, spare room neither, and that what comes out has memory of its own, and stays as it is, is seen on the way.
func want(t *testing.T, l []api.Pair, x step, after []api.Pair) {
	t.Helper()
	what := fmt.Sprintf("%v of %.30q", x, l)
	spare, spareWrite := api.Pair{Key: "spare", Val: "room"}, put("spare", "room")
	in, w := roomy(l, spare), roomy(x.w, spareWrite)
	given := x
	given.w = w
	got := do(in, given)
	if !slices.Equal(got, after) {
		t.Errorf("%s: %.30q; want %.30q", what, got, after)
	}
	kept := slices.Clone(got)
	for _, y := range later(got) {
		do(got, y)
		if !slices.Equal(got, kept) {
			t.Fatalf("%s: %v of it changed it: %.30q, and was %.30q", what, y, got, kept)
		}
	}
	for i := range in {
		in[i] = api.Pair{Key: "other", Val: "other"}
	}
	if !slices.Equal(got, kept) {
		t.Errorf("%s shares its memory with what was handed in", what)
	}
	copy(in, l)
	got = got[:cap(got)]
	for i := range got {
		got[i] = api.Pair{Key: "more", Val: "more"}
	}
	wantUntouched(t, in, l, spare, what)
	wantUntouched(t, w, x.w, spareWrite, what)
	if again := do(in, x); !slices.Equal(again, kept) {
		t.Errorf("%s, asked again: %.30q; and was %.30q", what, again, kept)
	}
}

// wantTold: a step's answer is the told one.
func wantTold(t *testing.T, l []api.Pair, x step) {
	t.Helper()
	want(t, l, x, told(l, x))
}

// rising are keys that rise: an empty one, such as begin others, capitals, bytes of 128 and above.
func rising() []string {
	return []string{"", "\x00", "\x00\x00", " ", "0", "00", "10", "9", "A", "a", "a\x00", "aa", "aaa", "ab", "b", "ba", "z", "\x7f", "\x80", "\x80\x00", "\xc3", "ä", "\xfe\xff", "\xff", "\xff\xff", strings.Repeat("\xff", 100), strings.Repeat("\xff", 70000)}
}

// TestP5_1Right: rows that are right and such that aren't, the fault at any place.
func TestP5_1Right(t *testing.T) {
	for _, x := range []struct {
		l     []api.Pair
		right bool
	}{
		{nil, true},
		{[]api.Pair{}, true},
		{row("", ""), true},
		{row("a", "1"), true},
		{row("a", "2", "b", "1"), true},
		{row("b", "1", "a", "2"), false},
		{row("a", "1", "a", "1"), false},
		{row("a", "1", "a", "2"), false},
		{row("", "1", "", "2"), false},
		{keyed("", "a"), true},
		{keyed("a", ""), false},
		{keyed("a", "aa", "ab"), true},
		{keyed("a", "ab", "aa"), false},
		{keyed("aa", "a", "b"), false},
		{keyed("a", "b", "a"), false},
		{keyed("b", "c", "a"), false},
		{keyed("a", "c", "b", "d"), false},
		{keyed("a", "c", "b", "c"), false},
		{keyed("Z", "a"), true},
		{keyed("10", "9"), true},
		{keyed("9", "10"), false},
		{keyed("z", "\x7f", "\x80", "\xff"), true},
		{keyed("\x80", "z"), false},
		{keyed("\xff", "ä"), false},
		{keyed(rising()...), true},
	} {
		if got := Right(x.l); got != x.right {
			t.Errorf("%.30q: %t", x.l, got)
		}
	}
	for i := 1; i < len(rising()); i++ {
		l := keyed(rising()...)
		l[i].Key = l[i-1].Key
		if Right(l) {
			t.Errorf("the key %d is the one ahead", i)
		}
		l = keyed(rising()...)
		l[i-1].Key, l[i].Key = l[i].Key, l[i-1].Key
		if Right(l) {
			t.Errorf("the key %d is below the one ahead", i)
		}
	}
}

// TestP5_1Between: a key at, below and above both ends; ends that are empty, fall, or are the same.
func TestP5_1Between(t *testing.T) {
	for _, x := range []struct {
		key, lo, hi string
		between     bool
	}{
		{"b", "a", "c", true},
		{"a", "a", "c", true},
		{"c", "a", "c", false},
		{"A", "a", "c", false},
		{"d", "a", "c", false},
		{"bzz", "a", "c", true},
		{"a", "a", "a", false},
		{"a", "a", "a\x00", true},
		{"a\x00", "a", "a\x00", false},
		{"b", "c", "a", false},
		{"a", "c", "a", false},
		{"c", "c", "a", false},
		{"d", "c", "a", false},
		{"", "", "", true},
		{"a", "", "", true},
		{"\xff", "", "", true},
		{"", "", "a", true},
		{"", "a", "", false},
		{"", "a", "b", false},
		{"a", "a", "", true},
		{"\xff", "a", "", true},
		{"A", "a", "", false},
		{"a", "aa", "", false},
		{"aa", "a", "aaa", true},
		{"aaa", "a", "aaa", false},
		{"\x80", "z", "\xff", true},
		{"\x80", "a", "z", false},
		{"z", "\x80", "\xff", false},
		{"ä", "\xc3", "\xc4", true},
	} {
		if got := Between(x.key, x.lo, x.hi); got != x.between {
			t.Errorf("Between(%q, %q, %q): %t", x.key, x.lo, x.hi, got)
		}
	}
	keys := rising()
	for i, key := range keys {
		for j, lo := range keys {
			for k, hi := range keys {
				if got := Between(key, lo, hi); got != (i >= j && (k == 0 || i < k)) || got != toldBetween(key, lo, hi) {
					t.Errorf("Between(%.20q, %.20q, %.20q): %t", key, lo, hi, got)
				}
			}
		}
	}
}

// wantFind: what is found of a key; a row that is asked stays as it is.
func wantFind(t *testing.T, l []api.Pair, key, val string, is bool) {
	t.Helper()
	spare := api.Pair{Key: key, Val: "spare"}
	in := roomy(l, spare)
	if v, is1 := Find(in, key); v != val || is1 != is {
		t.Errorf("Find(%.30q, %.20q): %q, %t; want %q, %t", l, key, v, is1, val, is)
	}
	wantUntouched(t, in, l, spare, "Find")
}

// TestP5_1Find: keys at each place, the first one of several, keys that aren't there; rows that are right and such that aren't.
func TestP5_1Find(t *testing.T) {
	for _, x := range []struct {
		l        []api.Pair
		key, val string
		is       bool
	}{
		{nil, "", "", false},
		{nil, "a", "", false},
		{row("a", "1"), "a", "1", true},
		{row("a", "1"), "", "", false},
		{row("a", "1"), "A", "", false},
		{row("a", "1"), "aa", "", false},
		{row("aa", "1"), "a", "", false},
		{row("", "1"), "", "1", true},
		{row("a", ""), "a", "", true},
		{row("a", "1", "b", "2", "c", "3"), "a", "1", true},
		{row("a", "1", "b", "2", "c", "3"), "b", "2", true},
		{row("a", "1", "b", "2", "c", "3"), "c", "3", true},
		{row("a", "1", "b", "2", "c", "3"), "d", "", false},
		{row("a", "1", "b", "2", "c", "3"), "bb", "", false},
		{row("a", "b"), "b", "", false},
		{row("c", "3", "a", "1", "b", "2"), "a", "1", true},
		{row("c", "3", "a", "1", "b", "2"), "b", "2", true},
		{row("c", "3", "a", "1", "b", "2"), "c", "3", true},
		{row("a", "1", "a", "2"), "a", "1", true},
		{row("a", "2", "a", "1"), "a", "2", true},
		{row("b", "0", "a", "2", "a", "1", "b", "4"), "a", "2", true},
		{row("b", "0", "a", "2", "a", "1", "b", "4"), "b", "0", true},
		{row("a", "", "a", "1"), "a", "", true},
		{row("\x80", "1", "\xff", "2"), "\xff", "2", true},
		{row("\xef\xbf\xbd", "1"), "\xff", "", false},
	} {
		wantFind(t, x.l, x.key, x.val, x.is)
	}
	l := keyed(rising()...)
	for i, p := range l {
		wantFind(t, l, p.Key, fmt.Sprint(i), true)
		wantFind(t, slices.Delete(slices.Clone(l), i, i+1), p.Key, "", false)
	}
}

// TestP5_2Put: a key that is there, once and more often; ahead of all, between, behind all; rows that aren't right.
func TestP5_2Put(t *testing.T) {
	for _, x := range []struct {
		l        []api.Pair
		key, val string
		after    []api.Pair
	}{
		{nil, "a", "1", row("a", "1")},
		{nil, "", "", row("", "")},
		{row("b", "2"), "a", "1", row("a", "1", "b", "2")},
		{row("b", "2"), "b", "1", row("b", "1")},
		{row("b", "2"), "b", "", row("b", "")},
		{row("b", "2"), "c", "1", row("b", "2", "c", "1")},
		{row("b", "2"), "", "1", row("", "1", "b", "2")},
		{row("", "2"), "", "1", row("", "1")},
		{row("", "2"), "\x00", "1", row("", "2", "\x00", "1")},
		{keyed("a", "c", "e"), "", "x", row("", "x", "a", "0", "c", "1", "e", "2")},
		{keyed("a", "c", "e"), "a", "x", row("a", "x", "c", "1", "e", "2")},
		{keyed("a", "c", "e"), "b", "x", row("a", "0", "b", "x", "c", "1", "e", "2")},
		{keyed("a", "c", "e"), "c", "x", row("a", "0", "c", "x", "e", "2")},
		{keyed("a", "c", "e"), "d", "x", row("a", "0", "c", "1", "d", "x", "e", "2")},
		{keyed("a", "c", "e"), "e", "x", row("a", "0", "c", "1", "e", "x")},
		{keyed("a", "c", "e"), "f", "x", row("a", "0", "c", "1", "e", "2", "f", "x")},
		{keyed("a", "aaa"), "aa", "x", row("a", "0", "aa", "x", "aaa", "1")},
		{keyed("a", "b"), "a\xff", "x", row("a", "0", "a\xff", "x", "b", "1")},
		{keyed("z", "\xff"), "\x80", "x", row("z", "0", "\x80", "x", "\xff", "1")},
		{keyed("a", "\x80"), "z", "x", row("a", "0", "z", "x", "\x80", "1")},
		// Rows that aren't right.
		{keyed("a", "a"), "a", "x", row("a", "x", "a", "1")},
		{keyed("b", "a", "b"), "b", "x", row("b", "x", "a", "1", "b", "2")},
		{keyed("c", "a", "b"), "a", "x", row("c", "0", "a", "x", "b", "2")},
		{keyed("c", "a", "b"), "b", "x", row("c", "0", "a", "1", "b", "x")},
		{keyed("a", "a"), "", "x", row("", "x", "a", "0", "a", "1")},
		{keyed("a", "a"), "b", "x", row("a", "0", "a", "1", "b", "x")},
		{keyed("c", "a", "d"), "b", "x", row("b", "x", "c", "0", "a", "1", "d", "2")},
		{keyed("a", "d", "b", "e"), "c", "x", row("a", "0", "c", "x", "d", "1", "b", "2", "e", "3")},
		{keyed("c", "b", "a"), "d", "x", row("c", "0", "b", "1", "a", "2", "d", "x")},
		{keyed("b", "c", "c"), "bb", "x", row("b", "0", "bb", "x", "c", "1", "c", "2")},
	} {
		want(t, x.l, step{kind: toPut, key: x.key, val: x.val}, x.after)
	}
	l := keyed(rising()...)
	for i, p := range l {
		less := slices.Delete(slices.Clone(l), i, i+1)
		want(t, less, step{kind: toPut, key: p.Key, val: p.Val}, l)
		want(t, l, step{kind: toPut, key: p.Key, val: p.Val}, l)
	}
}

// TestP5_2Drop: a key at each place, once and more often; one that isn't there.
func TestP5_2Drop(t *testing.T) {
	for _, x := range []struct {
		l     []api.Pair
		key   string
		after []api.Pair
	}{
		{nil, "", nil},
		{nil, "a", nil},
		{row("a", "1"), "a", nil},
		{row("", "1"), "", nil},
		{row("a", "1"), "", row("a", "1")},
		{row("a", "1"), "aa", row("a", "1")},
		{row("aa", "1"), "a", row("aa", "1")},
		{row("a", "b"), "b", row("a", "b")},
		{row("a", "1", "b", "2", "c", "3"), "a", row("b", "2", "c", "3")},
		{row("a", "1", "b", "2", "c", "3"), "b", row("a", "1", "c", "3")},
		{row("a", "1", "b", "2", "c", "3"), "c", row("a", "1", "b", "2")},
		{row("a", "1", "b", "2", "c", "3"), "d", row("a", "1", "b", "2", "c", "3")},
		{row("", "1", "a", "2"), "", row("a", "2")},
		{row("\x80", "1", "\xff", "2"), "\xff", row("\x80", "1")},
		{row("\xef\xbf\xbd", "1"), "\xff", row("\xef\xbf\xbd", "1")},
		// Rows that aren't right.
		{row("a", "1", "a", "2"), "a", nil},
		{row("a", "1", "a", "2", "a", "3"), "a", nil},
		{row("a", "1", "b", "2", "a", "3"), "a", row("b", "2")},
		{row("a", "1", "b", "2", "a", "3"), "b", row("a", "1", "a", "3")},
		{row("b", "1", "a", "2", "b", "3", "c", "4", "b", "5"), "b", row("a", "2", "c", "4")},
		{row("c", "1", "b", "2", "a", "3"), "b", row("c", "1", "a", "3")},
		{row("c", "1", "b", "2", "a", "3"), "d", row("c", "1", "b", "2", "a", "3")},
	} {
		want(t, x.l, step{kind: toDrop, key: x.key}, x.after)
	}
}

// TestP5_2Range: ends that are empty, fall, are the same, are keys and aren't; rows that are right and such that aren't.
func TestP5_2Range(t *testing.T) {
	l := keyed("a", "b", "bb", "c", "\x80")
	fallen := keyed("c", "a", "b", "a", "d")
	for _, x := range []struct {
		l      []api.Pair
		lo, hi string
		after  []api.Pair
	}{
		{nil, "", "", nil},
		{nil, "a", "b", nil},
		{row("", "1"), "", "", row("", "1")},
		{row("", "1"), "", "a", row("", "1")},
		{row("", "1"), "a", "", nil},
		{row("a", "1"), "a", "", row("a", "1")},
		{row("a", "1"), "a", "b", row("a", "1")},
		{row("a", "1"), "", "a", nil},
		{l, "", "", l},
		{l, "a", "", l},
		{l, "aa", "", l[1:]},
		{l, "b", "", l[1:]},
		{l, "\x80", "", l[4:]},
		{l, "\x81", "", nil},
		{l, "", "a", nil},
		{l, "", "b", l[:1]},
		{l, "", "\x80", l[:4]},
		{l, "", "\x81", l},
		{l, "b", "c", l[1:3]},
		{l, "b", "bb", l[1:2]},
		{l, "b", "b\x00", l[1:2]},
		{l, "b", "b", nil},
		{l, "bb", "b", nil},
		{l, "c", "a", nil},
		{l, "c", "cc", l[3:4]},
		{l, "A", "Z", nil},
		{fallen, "", "", fallen},
		{fallen, "a", "b", row("a", "1", "a", "3")},
		{fallen, "b", "", row("c", "0", "b", "2", "d", "4")},
		{fallen, "", "c", row("a", "1", "b", "2", "a", "3")},
		{fallen, "b", "a", nil},
	} {
		for _, most := range []int{math.MinInt, math.MinInt32, -2, -1, 0, 1, 2, 3, 4, 5, 6, math.MaxInt32, math.MaxInt32 + 1, math.MaxInt} {
			after := x.after
			if most < len(after) {
				after = after[:max(most, 0)]
			}
			want(t, x.l, step{kind: toRange, lo: x.lo, hi: x.hi, most: most}, after)
		}
	}
}

// TestP5_2Apply: no writes, some, several of one key; a Del that has a Val; rows that aren't right.
func TestP5_2Apply(t *testing.T) {
	for _, x := range []struct {
		l     []api.Pair
		w     []api.Write
		after []api.Pair
	}{
		{nil, nil, nil},
		{row("a", "1"), nil, row("a", "1")},
		{row("b", "1", "a", "2", "b", "3"), nil, row("b", "1", "a", "2", "b", "3")},
		{nil, []api.Write{put("a", "1")}, row("a", "1")},
		{nil, []api.Write{{}}, row("", "")},
		{nil, []api.Write{del("a")}, nil},
		{nil, []api.Write{put("b", "2"), put("a", "1")}, row("a", "1", "b", "2")},
		{nil, []api.Write{put("a", "1"), put("a", "2")}, row("a", "2")},
		{nil, []api.Write{put("a", "1"), del("a")}, nil},
		{nil, []api.Write{del("a"), put("a", "1")}, row("a", "1")},
		{nil, []api.Write{put("a", "1"), del("a"), put("a", "2")}, row("a", "2")},
		{nil, []api.Write{put("a", "1"), put("b", "2"), del("a"), put("c", "3")}, row("b", "2", "c", "3")},
		{row("a", "0"), []api.Write{put("a", "1"), put("b", "2"), put("a", "3")}, row("a", "3", "b", "2")},
		{row("a", "0"), []api.Write{{Key: "a", Val: "1", Del: true}}, nil},
		{row("a", "0", "b", "1"), []api.Write{{Key: "a", Val: "1", Del: true}, {Key: "c", Val: "1", Del: true}}, row("b", "1")},
		{row("a", "0", "b", "1"), []api.Write{del(""), put("", "2")}, row("", "2", "a", "0", "b", "1")},
		{row("a", "0"), []api.Write{put("a", "")}, row("a", "")},
		// Rows that aren't right.
		{row("a", "0", "a", "1"), []api.Write{put("a", "2")}, row("a", "2", "a", "1")},
		{row("a", "0", "a", "1"), []api.Write{del("a")}, nil},
		{row("a", "0", "a", "1"), []api.Write{del("a"), put("a", "2")}, row("a", "2")},
		{row("c", "0", "a", "1"), []api.Write{put("b", "2")}, row("b", "2", "c", "0", "a", "1")},
		{row("c", "0", "a", "1"), []api.Write{del("c"), put("b", "2"), put("c", "3")}, row("a", "1", "b", "2", "c", "3")},
		{row("c", "0", "a", "1", "c", "2"), []api.Write{put("c", "3"), put("d", "4")}, row("c", "3", "a", "1", "c", "2", "d", "4")},
	} {
		want(t, x.l, step{kind: toApply, w: x.w}, x.after)
	}
}

// fewKeys are such that rows and steps often have one together.
func fewKeys() []string {
	return []string{"", "a", "aa", "b", "\xff"}
}

// lists are all rows of at most n pairs of few keys.
func lists(n int) [][]api.Pair {
	all := [][]api.Pair{nil}
	last := all
	for range n {
		var longer [][]api.Pair
		for _, l := range last {
			for _, k := range fewKeys() {
				longer = append(longer, append(slices.Clone(l), api.Pair{Key: k, Val: fmt.Sprint(len(l))}))
			}
		}
		all, last = append(all, longer...), longer
	}
	return all
}

// steps are such of all kinds.
func steps() []step {
	var all []step
	keys := append(fewKeys(), "A", "ab", "\x80")
	for _, k := range keys {
		all = append(all, step{kind: toPut, key: k, val: "x"}, step{kind: toDrop, key: k, val: "x"})
		for _, k2 := range keys {
			for _, most := range []int{math.MinInt, -1, 0, 1, 2, math.MaxInt} {
				all = append(all, step{kind: toRange, lo: k, hi: k2, most: most})
			}
			all = append(all, step{kind: toApply, w: []api.Write{put(k, "x"), put(k2, "y")}}, step{kind: toApply, w: []api.Write{put(k, "x"), del(k2)}})
			all = append(all, step{kind: toApply, w: []api.Write{del(k), put(k2, "y")}}, step{kind: toApply, w: []api.Write{del(k), {Key: k2, Val: "y", Del: true}}})
		}
	}
	return all
}

// TestTold: every answer is the told one, for all short rows of few keys.
func TestTold(t *testing.T) {
	keys := append(fewKeys(), "A", "ab", "\x80")
	for _, l := range lists(5) {
		if Right(l) != toldRight(l) {
			t.Errorf("%q: %t", l, Right(l))
		}
		for _, k := range keys {
			val, is := toldFind(l, k)
			wantFind(t, l, k, val, is)
		}
	}
	all := steps()
	for _, l := range lists(3) {
		for _, x := range all {
			wantTold(t, l, x)
		}
		if t.Failed() {
			return
		}
	}
}

// lot is a step by lot, of some of the keys.
func lot(r *rand.Rand, keys []string) step {
	one := func() string { return keys[r.Intn(len(keys))] }
	x := step{kind: r.Intn(kinds), key: one(), val: fmt.Sprint(r.Intn(1000)), lo: one(), hi: one(), most: r.Intn(40) - 2}
	if x.kind == toRange && r.Intn(3) > 0 { // so that the row doesn't stay short
		x.lo, x.hi, x.most = "", "", math.MaxInt
	}
	for range r.Intn(9) {
		x.w = append(x.w, api.Write{Key: one(), Val: fmt.Sprint(r.Intn(1000)), Del: r.Intn(4) == 0})
	}
	return x
}

// asMap is what a row tells of its keys.
func asMap(l []api.Pair) map[string]string {
	m := map[string]string{}
	for _, p := range l {
		m[p.Key] = p.Val
	}
	return m
}

// mapStep is what a step makes of a map of keys and values.
func mapStep(m map[string]string, x step) map[string]string {
	after := map[string]string{}
	for k, v := range m {
		after[k] = v
	}
	switch x.kind {
	case toPut:
		after[x.key] = x.val
	case toDrop:
		delete(after, x.key)
	case toApply:
		for _, w := range x.w {
			after[w.Key] = w.Val
			if w.Del {
				delete(after, w.Key)
			}
		}
	}
	return after
}

// wantMap: a right row has the keys and values of a map, each once, and Find tells them.
func wantMap(t *testing.T, l []api.Pair, m map[string]string, keys []string) {
	t.Helper()
	if !Right(l) || !toldRight(l) {
		t.Errorf("%.30q isn't right", l)
	}
	if len(l) != len(m) {
		t.Errorf("%.30q has %d pairs; want %d", l, len(l), len(m))
	}
	for _, k := range keys {
		val, is := m[k]
		wantFind(t, l, k, val, is)
	}
}

// TestP5_3: of a right row right ones come; what was put is found, what was dropped isn't, nothing else changes.
func TestP5_3(t *testing.T) {
	r := rand.New(rand.NewSource(53))
	for _, keys := range [][]string{fewKeys(), rising()} {
		for range 40 {
			var l []api.Pair
			m := map[string]string{}
			for i := range 60 {
				x := lot(r, keys)
				after := do(l, x)
				wantTold(t, l, x)
				if x.kind == toRange {
					wantPiece(t, l, after, x)
				} else {
					m = mapStep(m, x)
					wantMap(t, after, m, keys)
					l = after
				}
				if t.Failed() {
					t.Fatalf("step %d, %v of %.30q: %.30q", i, x, l, after)
				}
			}
		}
	}
}

// wantPiece: a range of a right row is a right row, and a piece of it, whole where most lets it be.
func wantPiece(t *testing.T, l, some []api.Pair, x step) {
	t.Helper()
	if !Right(some) || len(some) > max(x.most, 0) {
		t.Errorf("%d pairs: %.30q", len(some), some)
	}
	m := asMap(some)
	n := 0
	for _, p := range l {
		val, is := m[p.Key]
		switch {
		case is && (val != p.Val || !toldBetween(p.Key, x.lo, x.hi)):
			t.Errorf("%.30q isn't of the range", p)
		case toldBetween(p.Key, x.lo, x.hi) && n < x.most:
			n++
			if !is {
				t.Errorf("%.30q is missing", p)
			}
		}
	}
	if n != len(some) {
		t.Errorf("%d pairs; want %d", len(some), n)
	}
}

// TestP5_3All: of all short right rows, and all steps.
func TestP5_3All(t *testing.T) {
	keys := append(fewKeys(), "A", "ab", "\x80")
	n := 0
	for _, l := range lists(5) {
		if !toldRight(l) {
			continue
		}
		n++
		for _, x := range steps() {
			after := do(l, x)
			if x.kind == toRange {
				wantPiece(t, l, after, x)
			} else {
				wantMap(t, after, mapStep(asMap(l), x), keys)
			}
		}
	}
	if n != 32 {
		t.Errorf("%d right rows", n)
	}
}

// TestP5_3Wide: a wide row, put in any order, is in order; dropped by half, the other half is there.
func TestP5_3Wide(t *testing.T) {
	r := rand.New(rand.NewSource(54))
	const n = 2000
	var l []api.Pair
	var drops []api.Write
	for _, i := range r.Perm(n) {
		l = Put(l, fmt.Sprintf("%05d", i), fmt.Sprint(i))
		if i%2 == 0 {
			drops = append(drops, del(fmt.Sprintf("%05d", i)))
		}
	}
	if len(l) != n || !Right(l) {
		t.Fatalf("%d pairs, right: %t", len(l), Right(l))
	}
	half := Apply(l, drops)
	if len(half) != n/2 || !Right(half) {
		t.Fatalf("%d pairs, right: %t", len(half), Right(half))
	}
	for i := range n {
		key := fmt.Sprintf("%05d", i)
		wantFind(t, l, key, fmt.Sprint(i), true)
		if _, is := Find(half, key); is != (i%2 == 1) {
			t.Errorf("%s: %t", key, is)
		}
	}
	if some := Range(half, "00100", "00200", n); len(some) != 50 || some[0].Key != "00101" || some[49].Key != "00199" {
		t.Errorf("%q", some)
	}
}

// TestR3: rows that come of one row, one after the other, stand apart.
func TestR3(t *testing.T) {
	l := Put(Put(nil, "a", "1"), "c", "3")
	b1, b2 := Put(l, "b", "x"), Put(l, "b", "y")
	d1, d2 := Put(l, "d", "x"), Put(l, "d", "y")
	none := Drop(l, "a")
	some := Range(l, "", "", 1)
	more := append(some, api.Pair{Key: "z", Val: "z"})
	w := Apply(l, []api.Write{put("c", "9"), del("a"), put("e", "5")})
	for _, x := range []struct{ got, want []api.Pair }{
		{l, row("a", "1", "c", "3")},
		{b1, row("a", "1", "b", "x", "c", "3")},
		{b2, row("a", "1", "b", "y", "c", "3")},
		{d1, row("a", "1", "c", "3", "d", "x")},
		{d2, row("a", "1", "c", "3", "d", "y")},
		{none, row("c", "3")},
		{some, row("a", "1")},
		{more, row("a", "1", "z", "z")},
		{w, row("c", "9", "e", "5")},
	} {
		if !slices.Equal(x.got, x.want) {
			t.Errorf("%q; want %q", x.got, x.want)
		}
	}
}

// TestExample: the chapter's.
func TestExample(t *testing.T) {
	l := Put(Put(nil, "b", "2"), "a", "1")
	if !slices.Equal(l, row("a", "1", "b", "2")) {
		t.Errorf("%q", l)
	}
	if some := Range(l, "a", "b", 9); !slices.Equal(some, row("a", "1")) {
		t.Errorf("%q", some)
	}
}
