package view

import (
	"bytes"
	"fmt"
	"slices"
	"strings"
	"testing"

	"stanchion/api"
)

// put is a write that puts.
func put(key, val string) api.Write {
	return api.Write{Key: key, Val: val}
}

// del is a write that drops.
func del(key string) api.Write {
	return api.Write{Key: key, Del: true}
}

// delVal is a write that drops, though it tells a value.
func delVal(key, val string) api.Write {
	return api.Write{Key: key, Val: val, Del: true}
}

// writes are a row of them.
func writes(w ...api.Write) []api.Write {
	return w
}

// keyed are writes of these keys, the values 0, 1 and so on, each third one a Del.
func keyed(keys ...string) []api.Write {
	var w []api.Write
	for i, k := range keys {
		w = append(w, api.Write{Key: k, Val: fmt.Sprint(i), Del: i%3 == 2})
	}
	return w
}

// row is one of keys and values in turn.
func row(t ...string) []api.Pair {
	var l []api.Pair
	for i := 0; i+1 < len(t); i += 2 {
		l = append(l, api.Pair{Key: t[i], Val: t[i+1]})
	}
	return l
}

// rising are keys that rise: an empty one, such as begin others, capitals, bytes of 128 and above, longer ones than a commit may have.
func rising() []string {
	return []string{"", "\x00", "\x00\x00", " ", "0", "00", "10", "9", "A", "a", "a\x00", "aa", "aaa", "ab", "b", "ba", "z", "\x7f", "\x80", "\x80\x00", "\xc3", "ä", "\xfe\xff", "\xff", "\xff\xff", strings.Repeat("\xff", 100), strings.Repeat("\xff", 70000)}
}

// below: is a key below another one, by their bytes?
func below(a, b string) bool {
	return bytes.Compare([]byte(a), []byte(b)) < 0
}

// spareWrite and sparePair are what spare room is full of.
var (
	spareWrite = put("spare", "room")
	sparePair  = api.Pair{Key: "spare", Val: "room"}
)

// roomy is a list with spare room behind it, which is full of a thing.
func roomy[T any](l []T, spare T) []T {
	return append(append(make([]T, 0, len(l)+4), l...), spare, spare, spare, spare)[:len(l)]
}

// wantUntouched: a roomy list is as it was, its spare room too.
func wantUntouched[T comparable](t *testing.T, now, before []T, spare T, what string) {
	t.Helper()
	if !slices.Equal(now, before) {
		t.Errorf("%s: %.30v was handed in, and is %.30v now", what, before, now)
	}
	for _, v := range now[len(now) : len(now)+4] {
		if v != spare {
			t.Errorf("%s: the spare room behind %.30v was written into", what, before)
		}
	}
}

// wantOwn: what came out shares no memory with what was handed in, and stays as it is when that is written over.
func wantOwn[T comparable](t *testing.T, got, in []T, other T, what string) {
	t.Helper()
	was, kept := slices.Clone(in), slices.Clone(got)
	for i := range in {
		in[i] = other
	}
	if !slices.Equal(got, kept) {
		t.Errorf("%s shares its memory with what was handed in", what)
	}
	copy(in, was)
	all := got[:cap(got)]
	for i := range all {
		all[i] = other
	}
	if !slices.Equal(in, was) {
		t.Errorf("%s shares its memory with what was handed in", what)
	}
	copy(got, kept)
}

// wantSet: what a Set answers; that nothing is written into that was handed in, and what came out stays as it is behind later calls, is seen on the way.
func wantSet(t *testing.T, w []api.Write, x api.Write, after []api.Write) {
	t.Helper()
	what := fmt.Sprintf("Set(%.40v, %.40v)", w, x)
	in := roomy(w, spareWrite)
	got := Set(in, x)
	if !slices.Equal(got, after) {
		t.Errorf("%s: %.40v; want %.40v", what, got, after)
	}
	kept := slices.Clone(got)
	for _, y := range append(slices.Clone(after), put("", "later"), put("m", "later"), put("\xff\xff\xff", "later")) {
		Set(got, put(y.Key, "later"))
		Set(in, put(y.Key, "later"))
	}
	if !slices.Equal(got, kept) {
		t.Errorf("%s: a later call changed it: %.40v, and was %.40v", what, got, kept)
	}
	wantOwn(t, got, in, put("other", "other"), what)
	wantUntouched(t, in, w, spareWrite, what)
	if again := Set(in, x); !slices.Equal(again, kept) {
		t.Errorf("%s, asked again: %.40v; and was %.40v", what, again, kept)
	}
}

// wantGet: what a Get answers.
func wantGet(t *testing.T, w []api.Write, base []api.Pair, key, val string, is bool) {
	t.Helper()
	what := fmt.Sprintf("Get(%.40v, %.40q, %.40q)", w, base, key)
	in, on := roomy(w, spareWrite), roomy(base, sparePair)
	if got, there := Get(in, on, key); got != val || there != is {
		t.Errorf("%s: %.40q, %t; want %.40q, %t", what, got, there, val, is)
	}
	wantUntouched(t, in, w, spareWrite, what)
	wantUntouched(t, on, base, sparePair, what)
}

// reach is what a Scan asks for.
type reach struct {
	lo, hi string
	most   int
}

// wantScan: what a Scan answers.
func wantScan(t *testing.T, w []api.Write, base []api.Pair, x reach, rows []api.Pair) {
	t.Helper()
	what := fmt.Sprintf("Scan(%.40v, %.40q, %.40q, %.40q, %d)", w, base, x.lo, x.hi, x.most)
	in, on := roomy(w, spareWrite), roomy(base, sparePair)
	got := Scan(in, on, x.lo, x.hi, x.most)
	if !slices.Equal(got, rows) {
		t.Errorf("%s: %.40q; want %.40q", what, got, rows)
	}
	wantOwn(t, got, on, api.Pair{Key: "other", Val: "other"}, what)
	wantUntouched(t, in, w, spareWrite, what)
	wantUntouched(t, on, base, sparePair, what)
	if again := Scan(in, on, x.lo, x.hi, x.most); !slices.Equal(again, got) {
		t.Errorf("%s, asked again: %.40q; and was %.40q", what, again, got)
	}
}
