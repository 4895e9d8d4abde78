package view

import (
	"fmt"
	"math"
	"math/rand"
	"slices"
	"testing"

	"stanchion/api"
)

// toldSet is Set, as its words tell it.
func toldSet(w []api.Write, x api.Write) []api.Write {
	for i := range w {
		if w[i].Key == x.Key {
			return slices.Concat(w[:i], writes(x), w[i+1:])
		}
	}
	for i := range w {
		if below(x.Key, w[i].Key) {
			return slices.Concat(w[:i], writes(x), w[i:])
		}
	}
	return slices.Concat(w, writes(x))
}

// toldRises is Rises, as its words tell it: of any two writes the one ahead has the key that is below.
func toldRises(w []api.Write) bool {
	for i := range w {
		for j := range i {
			if !below(w[j].Key, w[i].Key) {
				return false
			}
		}
	}
	return true
}

// toldSize is Size, as its words tell it.
func toldSize(w []api.Write) int {
	n := 0
	for _, x := range w {
		n += len([]byte(x.Key + x.Val))
	}
	return n
}

// toldGet is Get, as its words and chapter 5's tell it.
func toldGet(w []api.Write, base []api.Pair, key string) (string, bool) {
	for _, x := range w {
		if x.Key == key && x.Del {
			return "", false
		}
		if x.Key == key {
			return x.Val, true
		}
	}
	for _, p := range base {
		if p.Key == key {
			return p.Val, true
		}
	}
	return "", false
}

// toldApply is what chapter 5's Apply makes of pairs, as its words tell it.
func toldApply(l []api.Pair, w []api.Write) []api.Pair {
	for _, x := range w {
		if x.Del {
			l = slices.DeleteFunc(slices.Clone(l), func(p api.Pair) bool { return p.Key == x.Key })
			continue
		}
		at, behind := -1, -1
		for i, p := range l {
			if at < 0 && p.Key == x.Key {
				at, behind = i, i+1
			}
		}
		for i, p := range l {
			if at < 0 && below(x.Key, p.Key) {
				at, behind = i, i
			}
		}
		if at < 0 {
			at, behind = len(l), len(l)
		}
		l = slices.Concat(l[:at], row(x.Key, x.Val), l[behind:])
	}
	return l
}

// toldScan is Scan, as its words and chapter 5's tell it, of what the writes make of the base.
func toldScan(applied []api.Pair, x reach) []api.Pair {
	var all []api.Pair
	for _, p := range applied {
		if !below(p.Key, x.lo) && (x.hi == "" || below(p.Key, x.hi)) {
			all = append(all, p)
		}
	}
	return all[:min(len(all), max(x.most, 0))]
}

// fewKeys are such that rows and calls often have one together; someKeys are some more.
func fewKeys() []string {
	return []string{"", "a", "aa", "\xff"}
}

func someKeys() []string {
	return append(fewKeys(), "A", "a\x00", "b", "\x80")
}

// lists are all rows of at most n of what there may be at a place.
func lists[T any](n int, some func(place int) []T) [][]T {
	all := [][]T{nil}
	last := all
	for i := range n {
		var longer [][]T
		for _, l := range last {
			for _, v := range some(i) {
				longer = append(longer, append(slices.Clone(l), v))
			}
		}
		all, last = append(all, longer...), longer
	}
	return all
}

// fewWrites are all rows of at most n writes of few keys: each puts or drops.
func fewWrites(n int) [][]api.Write {
	return lists(n, func(place int) []api.Write {
		var w []api.Write
		for _, k := range fewKeys() {
			w = append(w, put(k, fmt.Sprint("w", place)), del(k))
		}
		return append(w, delVal("a", "v"))
	})
}

// fewPairs are all rows of at most n pairs of few keys.
func fewPairs(n int) [][]api.Pair {
	return lists(n, func(place int) []api.Pair {
		var l []api.Pair
		for _, k := range fewKeys() {
			l = append(l, api.Pair{Key: k, Val: fmt.Sprint("b", place)})
		}
		return l
	})
}

// reaches are such of all kinds.
func reaches() []reach {
	var all []reach
	for _, lo := range []string{"", "a", "a\x00", "\xff"} {
		for _, hi := range []string{"", "a", "aa", "\xff"} {
			for _, most := range []int{-1, 0, 1, 2, math.MaxInt} {
				all = append(all, reach{lo, hi, most})
			}
		}
	}
	return all
}

// TestP12_1Told: all short rows of few keys, whether they rise or not, and writes of each key, against the words.
func TestP12_1Told(t *testing.T) {
	for _, w := range fewWrites(4) {
		if got := Rises(w); got != toldRises(w) {
			t.Errorf("Rises(%v): %t", w, got)
		}
		if got := Size(w); got != toldSize(w) {
			t.Errorf("Size(%v): %d", w, got)
		}
		if len(w) == 4 {
			continue
		}
		for _, k := range someKeys() {
			for _, x := range writes(put(k, "x"), del(k), delVal(k, "x")) {
				wantSet(t, w, x, toldSet(w, x))
			}
		}
		if t.Failed() {
			return
		}
	}
}

// wantGets: each key is got as the words tell it.
func wantGets(t *testing.T, w []api.Write, base []api.Pair) {
	t.Helper()
	for _, k := range someKeys() {
		val, is := toldGet(w, base, k)
		wantGet(t, w, base, k, val, is)
	}
}

// TestP12_2Told: all short rows of writes over all short bases, right or not, each key and all kinds of reaches, against the words.
func TestP12_2Told(t *testing.T) {
	bases, all := fewPairs(3), reaches()
	for _, w := range fewWrites(2) {
		for _, base := range bases {
			wantGets(t, w, base)
			applied := toldApply(base, w)
			for _, x := range all {
				if got, rows := Scan(w, base, x.lo, x.hi, x.most), toldScan(applied, x); !slices.Equal(got, rows) {
					t.Fatalf("Scan(%v, %q, %v): %q; want %q", w, base, x, got, rows)
				}
			}
		}
		if t.Failed() {
			return
		}
	}
}

// TestP12_2ToldLonger: the same, of rows of three writes over shorter bases.
func TestP12_2ToldLonger(t *testing.T) {
	bases := fewPairs(1)
	for _, w := range fewWrites(3) {
		for _, base := range bases {
			wantGets(t, w, base)
			applied := toldApply(base, w)
			for _, x := range []reach{{"", "", 9}, {"a", "", 9}, {"", "aa", 1}} {
				wantScan(t, w, base, x, toldScan(applied, x))
			}
		}
		if t.Failed() {
			return
		}
	}
}

// TestP12_3Set: what was set is got, whatever was set ahead; no other key's value is changed; where keys rise, they rise behind it.
func TestP12_3Set(t *testing.T) {
	base := row("a", "1", "b", "2")
	for _, w := range fewWrites(3) {
		for _, k := range someKeys() {
			for _, x := range writes(put(k, "x"), put(k, ""), del(k), delVal(k, "x")) {
				after := Set(w, x)
				if val, is := Get(after, base, k); is == x.Del || is && val != x.Val || !is && val != "" {
					t.Fatalf("%v was set to %v: %q, %t", x, w, val, is)
				}
				for _, other := range someKeys() {
					val, is := Get(w, base, other)
					now, still := Get(after, base, other)
					if other != k && (now != val || still != is) {
						t.Fatalf("%v was set to %v: of %q there is %q, %t; and was %q, %t", x, w, other, now, still, val, is)
					}
				}
				if Rises(w) && !Rises(after) {
					t.Fatalf("%v was set to %v: %v doesn't rise", x, w, after)
				}
			}
		}
	}
}

// wantScanned: of a base and writes whose keys rise, a key is scanned just if it is got, with that value; what is scanned rises.
func wantScanned(t *testing.T, w []api.Write, base []api.Pair, keys []string) {
	t.Helper()
	rows := Scan(w, base, "", "", math.MaxInt)
	scanned := map[string]string{}
	last := ""
	for i, p := range rows {
		if i > 0 && !below(last, p.Key) {
			t.Errorf("over %.40q, by %.40v: %.40q doesn't rise", base, w, rows)
		}
		last = p.Key
		scanned[p.Key] = p.Val
	}
	got := 0
	for _, k := range keys {
		val, is := Get(w, base, k)
		if s, there := scanned[k]; there != is || s != val {
			t.Errorf("over %.40q, by %.40v: of %.40q is got %q, %t, and scanned %q, %t", base, w, k, val, is, s, there)
		}
		if is {
			got++
		}
	}
	if got != len(rows) {
		t.Errorf("over %.40q, by %.40v: %d keys are got, and %d scanned", base, w, got, len(rows))
	}
}

// TestP12_3All: all short rows of writes whose keys rise, over all short bases whose keys rise.
func TestP12_3All(t *testing.T) {
	n := 0
	var bases [][]api.Pair
	for _, base := range fewPairs(4) {
		if toldRises(ofPairs(base)) {
			bases = append(bases, base)
		}
	}
	for _, w := range fewWrites(4) {
		if !toldRises(w) {
			continue
		}
		for _, base := range bases {
			n++
			wantScanned(t, w, base, someKeys())
		}
		if t.Failed() {
			return
		}
	}
	if n != 108*16 {
		t.Errorf("%d rows over a base", n)
	}
}

// ofPairs are writes that put pairs.
func ofPairs(l []api.Pair) []api.Write {
	var w []api.Write
	for _, p := range l {
		w = append(w, put(p.Key, p.Val))
	}
	return w
}

// lotWrite is a write by lot, of some of the keys.
func lotWrite(r *rand.Rand, keys []string) api.Write {
	return api.Write{Key: keys[r.Intn(len(keys))], Val: fmt.Sprint(r.Intn(1000)), Del: r.Intn(3) == 0}
}

// TestP12_3Walk: many writes, set one behind the other over a base: each key is got as a map tells it, scanned if it is got, and no row that came ahead is changed.
func TestP12_3Walk(t *testing.T) {
	r := rand.New(rand.NewSource(123))
	for _, keys := range [][]string{fewKeys(), someKeys(), rising()} {
		for range 20 {
			var base []api.Pair
			values := map[string]string{}
			for _, k := range slices.Sorted(slices.Values(keys)) {
				if r.Intn(2) == 0 {
					values[k] = fmt.Sprint("b", r.Intn(1000))
					base = append(base, api.Pair{Key: k, Val: values[k]})
				}
			}
			walk(t, r, keys, base, values)
			if t.Failed() {
				return
			}
		}
	}
}

// walk sets writes by lot over a base; values is what there is of each key.
func walk(t *testing.T, r *rand.Rand, keys []string, base []api.Pair, values map[string]string) {
	t.Helper()
	var w []api.Write
	var ahead, kept [][]api.Write
	for range 40 {
		x := lotWrite(r, keys)
		wantSet(t, w, x, toldSet(w, x))
		w = Set(w, x)
		ahead, kept = append(ahead, w), append(kept, slices.Clone(w))
		values[x.Key] = x.Val
		if x.Del {
			delete(values, x.Key)
		}
		for _, k := range keys {
			val, is := values[k]
			wantGet(t, w, base, k, val, is)
		}
		if !Rises(w) || Size(w) != toldSize(w) {
			t.Errorf("%.40v: rises: %t, its size: %d", w, Rises(w), Size(w))
		}
		wantScanned(t, w, base, keys)
		span := reach{keys[r.Intn(len(keys))], keys[r.Intn(len(keys))], r.Intn(20)}
		wantScan(t, w, base, span, toldScan(toldApply(base, w), span))
	}
	for i := range ahead {
		if !slices.Equal(ahead[i], kept[i]) {
			t.Errorf("what came of the Set %d was changed by a later one", i)
		}
	}
}
