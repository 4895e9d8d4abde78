package ring

import (
	"math/rand"
	"slices"
	"testing"

	"stanchion/api"
	"stanchion/lock"
)

// toldBlocks: is one of the transactions in the way of a claim at a place of the queue, as chapter 10 tells it?
func toldBlocks(l api.Locks, other, place int) bool {
	c := l.Queue[place]
	for _, h := range l.Held {
		if h.Txn == other && other != c.Txn && toldClash(h.W, c.W) {
			return true
		}
	}
	for i, d := range l.Queue {
		if i < place && d.Txn == other && other != c.Txn && toldClash(d.W, c.W) {
			return true
		}
	}
	return false
}

// toldWaits: does one wait for another one?
func toldWaits(l api.Locks, txn, other int) bool {
	for i, c := range l.Queue {
		if c.Txn == txn && toldBlocks(l, other, i) {
			return true
		}
	}
	return false
}

// everybody is all whose numbers stand in locks: rising, each once.
func everybody(l api.Locks) []int {
	var all []int
	for _, h := range l.Held {
		all = append(all, h.Txn)
	}
	for _, c := range l.Queue {
		all = append(all, c.Txn)
	}
	slices.Sort(all)
	return slices.Compact(all)
}

// ways tells between whom a way leads: one step, or two that meet, as long as there are more.
func ways(all []int, one func(from, to int) bool) map[step]bool {
	leads := map[step]bool{}
	for _, a := range all {
		for _, b := range all {
			leads[step{a, b}] = one(a, b)
		}
	}
	for more := true; more; {
		more = false
		for _, a := range all {
			for _, b := range all {
				for _, c := range all {
					if leads[step{a, b}] && leads[step{b, c}] && !leads[step{a, c}] {
						leads[step{a, c}], more = true, true
					}
				}
			}
		}
	}
	return leads
}

// wantTold: each call of all that there are, and of one that isn't there, answers what the words of P11.1 and P11.2 tell.
func wantTold(t *testing.T, l api.Locks) {
	t.Helper()
	all := everybody(l)
	leads := ways(all, func(from, to int) bool { return toldWaits(l, from, to) })
	wantWays(t, l, all, leads)
	for _, txn := range append(slices.Clone(all), 1000) {
		var after []int
		for _, other := range all {
			if toldWaits(l, txn, other) {
				after = append(after, other)
			}
		}
		wantAfter(t, l, txn, after...)
	}
	if t.Failed() {
		t.FailNow()
	}
}

// wantWays: what is reached, and what is a ring, by the ways that lead.
func wantWays(t *testing.T, l api.Locks, all []int, leads map[step]bool) {
	t.Helper()
	for _, txn := range append(slices.Clone(all), 1000) {
		var reach, ring []int
		for _, other := range all {
			if leads[step{txn, other}] {
				reach = append(reach, other)
			}
			if leads[step{txn, txn}] && leads[step{txn, other}] && leads[step{other, txn}] {
				ring = append(ring, other)
			}
		}
		wantReach(t, l, txn, reach...)
		wantRing(t, l, txn, ring...)
	}
}

// TestToldSteps: all rows of steps that four can go.
func TestToldSteps(t *testing.T) {
	var pairs []step
	for a := 1; a <= 4; a++ {
		for b := 1; b <= 4; b++ {
			if a != b {
				pairs = append(pairs, step{a, b})
			}
		}
	}
	for i := range 1 << len(pairs) {
		var some []step
		for k, p := range pairs {
			if i>>k&1 == 1 {
				some = append(some, p)
			}
		}
		l := steps(some...)
		leads := ways(upTo(1, 4), func(from, to int) bool { return slices.Contains(some, step{from, to}) })
		wantWays(t, l, upTo(1, 4), leads)
		if t.Failed() {
			t.FailNow()
		}
	}
}

// lists are all rows of at most n of some things.
func lists[T any](some []T, n int) [][]T {
	all := [][]T{nil}
	last := all
	for range n {
		var longer [][]T
		for _, l := range last {
			for _, v := range some {
				longer = append(longer, append(slices.Clone(l), v))
			}
		}
		all, last = append(all, longer...), longer
	}
	return all
}

// TestToldFew: all small locks of three transactions and few spans, that may have come by Ask or not.
func TestToldFew(t *testing.T) {
	var h []api.Hold
	var c []api.Claim
	for txn := 1; txn <= 3; txn++ {
		for _, w := range []api.Want{sa, xa, xb} {
			h = append(h, hold(txn, w))
			c = append(c, claim(txn, w, 5))
		}
	}
	for _, held := range lists(h, 2) {
		for _, queue := range lists(c, 2) {
			wantTold(t, locks(held, queue))
		}
	}
	for _, queue := range lists(c, 4) {
		wantTold(t, locks(nil, queue))
	}
}

// lotWant is any span of short ends, mostly one that may be.
func lotWant(r *rand.Rand) api.Want {
	ends := []string{"", "a", "a\x00", "b", "c", "c\x00", "d"}
	w := from(1+r.Intn(2), ends[r.Intn(len(ends))], ends[r.Intn(len(ends))])
	switch r.Intn(4) {
	case 0, 1:
		w = one(w.Mode, w.Lo)
	case 2:
		w.Mode = r.Intn(4)
	}
	return w
}

// TestToldWild: longer locks, that nobody came to by Ask, of few transactions and of many, of few claims and of many.
func TestToldWild(t *testing.T) {
	r := rand.New(rand.NewSource(111))
	for i := range 3000 {
		var l api.Locks
		txns := 2 + i%12
		for range r.Intn(8) {
			l.Held = append(l.Held, hold(r.Intn(txns)-1, lotWant(r)))
		}
		for range r.Intn(20) {
			l.Queue = append(l.Queue, claim(r.Intn(txns)-1, lotWant(r), uint64(r.Intn(5))))
		}
		wantTold(t, l)
	}
}

// wantGone: all of a ring have the same ring; where one of it is freed, nobody has it any more, and that one has none; who waits for nobody is in none.
func wantGone(t *testing.T, l api.Locks) (rings int) {
	t.Helper()
	all := everybody(l)
	for _, txn := range all {
		ring := Ring(l, txn)
		if len(ring) == 0 {
			continue
		}
		rings++
		if !slices.Contains(ring, txn) || len(ring) < 2 {
			t.Fatalf("%s: the ring of %d is %d", show(l), txn, ring)
		}
		for _, other := range ring {
			if !slices.Equal(Ring(l, other), ring) {
				t.Fatalf("%s: the ring of %d is %d, of %d %d", show(l), txn, ring, other, Ring(l, other))
			}
		}
		k, _ := lock.Free(l, txn)
		for _, other := range all {
			if slices.Contains(Ring(k, other), txn) || slices.Equal(Ring(k, other), ring) || slices.Contains(Reach(k, other), txn) {
				t.Fatalf("%s: %d was freed; the ring of %d is %d, in %s", show(l), txn, other, Ring(k, other), show(k))
			}
		}
	}
	for _, txn := range all {
		if len(After(l, txn)) > 0 {
			continue
		}
		for _, other := range append(all, 1000) {
			if slices.Contains(Ring(l, other), txn) {
				t.Fatalf("%s: %d waits for nobody, and is in the ring %d", show(l), txn, Ring(l, other))
			}
		}
	}
	return rings
}

// TestP11_3Walk: from nothing on by Ask and Free, of few transactions and of more; rings stay as they come up, till at the end victims alone are freed, and none is in a ring.
func TestP11_3Walk(t *testing.T) {
	r := rand.New(rand.NewSource(113))
	rings := 0
	for i := range 150 {
		var l api.Locks
		txns := 2 + i%8
		for n := range 60 {
			if txn := 1 + r.Intn(txns); r.Intn(12) == 0 {
				l, _ = lock.Free(l, txn)
			} else {
				l, _ = lock.Ask(l, txn, lotWant(r), uint64(n))
			}
			rings += wantGone(t, l)
		}
		for _, txn := range everybody(l) {
			for v, is := Victim(l, txn); is; v, is = Victim(l, txn) {
				l, _ = lock.Free(l, v)
			}
		}
		for _, txn := range everybody(l) {
			wantRing(t, l, txn)
		}
	}
	if rings < 1000 {
		t.Errorf("only %d rings came up", rings)
	}
}

// TestP11_3Wild: it holds of locks that nobody came to by Ask, too.
func TestP11_3Wild(t *testing.T) {
	r := rand.New(rand.NewSource(114))
	rings := 0
	for range 1000 {
		var l api.Locks
		for range r.Intn(6) {
			l.Held = append(l.Held, hold(r.Intn(7)-1, lotWant(r)))
		}
		for range r.Intn(10) {
			l.Queue = append(l.Queue, claim(r.Intn(7)-1, lotWant(r), 5))
		}
		rings += wantGone(t, l)
	}
	if rings < 100 {
		t.Errorf("only %d rings came up", rings)
	}
}

// TestP11_3All: all short rows of asks and frees of three transactions.
func TestP11_3All(t *testing.T) {
	some := []api.Want{sa, xa, xb}
	steps := 3 * (len(some) + 1)
	for i := range steps * steps * steps * steps {
		var l api.Locks
		for rest := i; rest > 0; rest /= steps {
			txn, do := 1+rest%3, rest%steps/3
			if do == len(some) {
				l, _ = lock.Free(l, txn)
			} else {
				l, _ = lock.Ask(l, txn, some[do], 5)
			}
		}
		wantGone(t, l)
	}
}
