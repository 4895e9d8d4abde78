package run

import (
	"fmt"
	"math/rand"
	"slices"
	"testing"

	"stanchion/api"
	"stanchion/table"
)

// toldMerge is Merge, as its words tell it.
func toldMerge(older, newer []api.Write) []api.Write {
	all := slices.Concat(older, newer)
	var l []api.Write
	for i, w := range all {
		again := false
		for _, x := range all[i+1:] {
			again = again || x.Key == w.Key
		}
		if again {
			continue
		}
		at := 0
		for at < len(l) && below(l[at].Key, w.Key) {
			at++
		}
		l = slices.Insert(l, at, w)
	}
	return l
}

// toldFold are the keys that were put last, rising, with the values that they got.
func toldFold(w []api.Write) []api.Pair {
	var l []api.Pair
	for _, x := range toldMerge(nil, w) {
		if !x.Del {
			l = append(l, api.Pair{Key: x.Key, Val: x.Val})
		}
	}
	return l
}

// wantMerge: what Merge tells; the lists that are handed in aren't written into, nor is their spare room, and what comes out is the caller's own.
func wantMerge(t *testing.T, older, newer, l []api.Write) {
	t.Helper()
	spare, other := put("spare", "room"), put("other", "other")
	in, in1 := roomy(older, spare), roomy(newer, spare)
	for range 2 {
		got := Merge(in, in1)
		if !slices.Equal(got, l) {
			t.Errorf("%.200v and %.200v: %.200v; want %.200v", older, newer, got, l)
		}
		kept := slices.Clone(got)
		again := Merge(got, in)
		spoil(again, other)
		spoil(Merge(nil, got), other)
		if !slices.Equal(got, kept) {
			t.Errorf("%.200v: a later call made it %.200v", kept, got)
		}
		spoil(got, other)
		wantUntouched(t, in, older, spare, "Merge")
		wantUntouched(t, in1, newer, spare, "Merge")
	}
}

// wantFold: what Fold tells; it is chapter 5's Apply to nothing.
func wantFold(t *testing.T, w []api.Write, l []api.Pair) {
	t.Helper()
	spare := put("spare", "room")
	in := roomy(w, spare)
	for range 2 {
		got := Fold(in)
		if !slices.Equal(got, l) {
			t.Errorf("%.200v: %.200q; want %.200q", w, got, l)
		}
		if told := table.Apply(nil, w); !slices.Equal(got, told) {
			t.Errorf("%.200v: %.200q; and is applied %.200q", w, got, told)
		}
		spoil(got, api.Pair{Key: "other", Val: "other"})
		wantUntouched(t, in, w, spare, "Fold")
	}
}

// TestP6_3Merge: no writes; of one key several in one list and in both; a Del last, a Del first, one with a value; keys of any bytes.
func TestP6_3Merge(t *testing.T) {
	l := func(w ...api.Write) []api.Write { return w }
	odd := api.Write{Key: "a", Val: "kept", Del: true}
	for _, x := range []struct{ older, newer, all []api.Write }{
		{nil, nil, nil},
		{l(), l(), nil},
		{l(put("a", "1")), nil, l(put("a", "1"))},
		{nil, l(put("a", "1")), l(put("a", "1"))},
		{l(del("a")), nil, l(del("a"))},
		{nil, l(del("a")), l(del("a"))},
		{l(put("a", "1")), l(put("a", "2")), l(put("a", "2"))},
		{l(put("a", "2")), l(put("a", "1")), l(put("a", "1"))},
		{l(put("a", "1")), l(put("a", "1")), l(put("a", "1"))},
		{l(put("a", "1")), l(del("a")), l(del("a"))},
		{l(del("a")), l(put("a", "1")), l(put("a", "1"))},
		{l(del("a")), l(del("a")), l(del("a"))},
		{l(put("a", "1"), put("a", "2")), nil, l(put("a", "2"))},
		{nil, l(put("a", "1"), put("a", "2")), l(put("a", "2"))},
		{l(put("a", "1"), put("a", "2"), del("a")), nil, l(del("a"))},
		{nil, l(put("a", "1"), put("a", "2"), del("a")), l(del("a"))},
		{l(del("a"), put("a", "1"), put("a", "2")), nil, l(put("a", "2"))},
		{nil, l(del("a"), put("a", "1"), put("a", "2")), l(put("a", "2"))},
		{l(put("a", "1"), del("a"), put("a", "2")), l(put("a", "3"), del("a"), put("a", "4")), l(put("a", "4"))},
		{l(put("a", "1"), del("a"), put("a", "2")), l(put("a", "3"), put("a", "4"), del("a")), l(del("a"))},
		{l(put("b", "1"), put("a", "2")), nil, l(put("a", "2"), put("b", "1"))},
		{nil, l(put("b", "1"), put("a", "2")), l(put("a", "2"), put("b", "1"))},
		{l(put("b", "1")), l(put("a", "2")), l(put("a", "2"), put("b", "1"))},
		{l(put("a", "1")), l(put("b", "2")), l(put("a", "1"), put("b", "2"))},
		{l(put("b", "1"), put("a", "2")), l(del("b"), put("c", "3")), l(put("a", "2"), del("b"), put("c", "3"))},
		{l(put("c", "1"), put("a", "1"), put("b", "1")), l(put("b", "2"), put("d", "2"), put("b", "3")), l(put("a", "1"), put("b", "3"), put("c", "1"), put("d", "2"))},
		{l(put("", "1"), put("a", "")), l(put("", "")), l(put("", ""), put("a", ""))},
		{l(put("a", "1")), l(put("", "")), l(put("", ""), put("a", "1"))},
		{l(odd), l(put("b", "1")), l(odd, put("b", "1"))},
		{l(put("a", "1")), l(odd), l(odd)},
		{l(odd), l(del("a")), l(del("a"))},
		{l(put("aa", "1"), put("a", "2"), put("a\x00", "3")), l(put("A", "4"), put("", "5")), l(put("", "5"), put("A", "4"), put("a", "2"), put("a\x00", "3"), put("aa", "1"))},
		{l(put("9", "1"), put("10", "2")), nil, l(put("10", "2"), put("9", "1"))},
		{l(put("\xff", "1"), put("\x80", "2"), put("z", "3"), put("ä", "4"), put("\xff\xff", "5")), l(put("\x7f", "6"), del("\x80")),
			l(put("z", "3"), put("\x7f", "6"), del("\x80"), put("ä", "4"), put("\xff", "1"), put("\xff\xff", "5"))},
		{l(put("\xff", "1")), l(put("\xef\xbf\xbd", "2")), l(put("\xef\xbf\xbd", "2"), put("\xff", "1"))},
		{l(put(text(70000), "1")), l(put(text(70000), text(70000)), put(text(69999), "")), l(put(text(69999), ""), put(text(70000), text(70000)))},
	} {
		wantMerge(t, x.older, x.newer, x.all)
		if told := toldMerge(x.older, x.newer); !slices.Equal(told, x.all) {
			t.Errorf("%v and %v: told is %v", x.older, x.newer, told)
		}
	}
}

// TestP6_3Fold: the same edges, of one list.
func TestP6_3Fold(t *testing.T) {
	for _, x := range []struct {
		w []api.Write
		l []api.Pair
	}{
		{nil, nil},
		{[]api.Write{}, nil},
		{[]api.Write{put("a", "1")}, row("a", "1")},
		{[]api.Write{del("a")}, nil},
		{[]api.Write{{}}, row("", "")},
		{[]api.Write{put("a", "1"), put("a", "2")}, row("a", "2")},
		{[]api.Write{put("a", "1"), del("a")}, nil},
		{[]api.Write{del("a"), put("a", "1")}, row("a", "1")},
		{[]api.Write{put("a", "1"), del("a"), put("a", "2")}, row("a", "2")},
		{[]api.Write{put("b", "1"), put("a", "2"), put("c", ""), del("b")}, row("a", "2", "c", "")},
		{[]api.Write{{Key: "a", Val: "1", Del: true}, put("b", "2")}, row("b", "2")},
		{[]api.Write{put("\xff", "1"), put("z", "2"), put("\x80", "3"), put("", "4")}, row("", "4", "z", "2", "\x80", "3", "\xff", "1")},
		{[]api.Write{put(text(70000), text(70000)), del("a")}, row(text(70000), text(70000))},
	} {
		wantFold(t, x.w, x.l)
	}
}

// writes are all lists of at most n writes of few keys; the values tell them apart.
func writes(n int) [][]api.Write {
	all := [][]api.Write{nil}
	last := all
	for i := range n {
		var longer [][]api.Write
		for _, l := range last {
			for _, key := range []string{"b", "", "\xff", "ba"} {
				longer = append(longer, append(slices.Clone(l), put(key, fmt.Sprint(i))), append(slices.Clone(l), del(key)))
			}
		}
		all, last = append(all, longer...), longer
	}
	return all
}

// lotWrites are writes by lot, of few keys or of many.
func lotWrites(r *rand.Rand) []api.Write {
	keys := 1 + r.Intn(8)
	if r.Intn(2) == 0 {
		keys = 300
	}
	var l []api.Write
	for range r.Intn(200) {
		l = append(l, api.Write{Key: fmt.Sprint(r.Intn(keys)), Val: fmt.Sprint(r.Intn(1000)), Del: r.Intn(3) == 0})
	}
	return l
}

// TestP6_3Told: every answer is the told one, for all short lists of few keys, and for long ones by lot.
func TestP6_3Told(t *testing.T) {
	for _, older := range writes(2) {
		wantFold(t, older, toldFold(older))
		for _, newer := range writes(2) {
			wantMerge(t, older, newer, toldMerge(older, newer))
		}
	}
	for _, w := range writes(4) {
		wantFold(t, w, toldFold(w))
	}
	r := rand.New(rand.NewSource(63))
	for range 200 {
		older, newer := lotWrites(r), lotWrites(r)
		wantMerge(t, older, newer, toldMerge(older, newer))
		wantFold(t, older, toldFold(older))
	}
}
